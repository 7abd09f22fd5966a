import PyProof.Rows.All
import Wide.All
import OpenK.AllK
import Wide.FinOn
import HandS.ForMost
import HandS.Wide
import HandS.NoneIn
import HandS.IsInst
import HandS.Zip
import HandS.Walk
import HandS.Style
import HandS.CallLocal
import HandS.TupAny
import HandS.TupMul
import KE.GoesEnum
import HandS.Conv
import HandS.Strs
import HandS.Deep
import HandS.Flow
import PyProof.ReprRoads
import PyProof.ReprLen
import PyProof.FitsInt
import KE.DatumOrd
import PySem.Challenge.RW_rightage_k01_worlds_at_their_bounds
set_option Elab.async false
set_option linter.all false
set_option maxRecDepth 100000
set_option maxHeartbeats 4000000
namespace Rt
open PySem PySem.Spec PyProof.Rows L2

/-! ### a def of the text as its callers see it -/
structure Cl (P : Program) (w : World) (K : PySem.W.Frag) (mg : Str → Option Value) (base : Heap) (k : Nat) (x : Str) (ps : List Str) (sp : Sp) : Prop where
  ex : ∃ (f : Addr) (fd : FuncData), FnOk P w K mg base CX0 k f fd ps sp ∧ mg x = some (.ref f) ∧ PySem.W.keepIn K (.ref f) = true ∧ Binds K fd ps []
section
variable {X : Cx}
theorem pe_cl {k : Nat} {x : Str} {ps : List Str} {sp : Sp} {p pos : Pos} {e : Expr} {es : List Expr} {t : TA} (C : Cl X.prog X.w X.K X.mg X.base k x ps sp) (hr : Room k X.A) (hg : Gl X x) (ha : PA X (e :: es) t)
    (hdb : (x == ("__debug__" : Str)) = false := by decide) (he : starEach (e :: es) X.env = (false, eval e X.env) :: starEach es X.env := by rfl) (hpl : (backTo pos (starEach es X.env)).any (·.1) = false := by rfl) :
    PE X (.Call (.Name x p) (e :: es) [] pos) (tCall sp [] E0 t) := by
  obtain ⟨f, fd, F, hm, hk, hb⟩ := C.ex
  exact pe_call F hr hg hm hk hb .nil pass0 ha hdb he hpl
end


/-! ### rules that hand on letters -/
section
variable {X : Cx}
theorem OpR.weak {f : Value → Value → Sem Value} {r r' : R2} (o : OpR X f r) (m : ∀ x y H Q, r' x y H Q → r x y H Q) : OpR X f r' := fun pn s σ H x y v u Q I a b q => o pn s σ H x y v u Q I a b (m _ _ _ _ q)
def rModL : R2 := fun x y H Q => ∃ i j : Int, x = .int i ∧ y = .int j ∧ 0 < j ∧ ∀ z : Int, z = i % j → 0 ≤ z → z < j → Q (.int z) H
theorem op_modL : OpR X (binaryOp .Mod) rModL := OpR.weak op_mod fun x y H Q h => by
  obtain ⟨i, j, rfl, rfl, hj, q⟩ := h
  exact ⟨i, j, rfl, rfl, hj, q _ rfl (Int.emod_nonneg _ (by omega)) (Int.emod_lt_of_pos _ hj)⟩
def rPowL : R2 := fun x y H Q => ∃ i j : Int, x = .int i ∧ y = .int j ∧ 0 ≤ j ∧ j ≤ 1000000 ∧ i.natAbs < 2 ^ 64 ∧ ∀ z : Int, z = i ^ j.toNat → Q (.int z) H
theorem op_powL : OpR X (binaryOp .Pow) rPowL := OpR.weak op_pow fun x y H Q h => by
  obtain ⟨i, j, rfl, rfl, h0, h1, h2, q⟩ := h
  exact ⟨i, j, rfl, rfl, ⟨h0, h1, h2⟩, q _ rfl⟩
def rMulL : R2 := fun x y H Q => ∃ i j : Int, x = .int i ∧ y = .int j ∧ CMul i j ∧ ∀ z : Int, z = i * j → Q (.int z) H
theorem op_mulL : OpR X (binaryOp .Mult) rMulL := OpR.weak op_mul fun x y H Q h => by
  obtain ⟨i, j, rfl, rfl, h2, q⟩ := h
  exact ⟨i, j, rfl, rfl, h2, q _ rfl⟩
def rAddL : R2 := fun x y H Q => ∃ i j : Int, x = .int i ∧ y = .int j ∧ ∀ z : Int, z = i + j → Q (.int z) H
theorem op_addL : OpR X (binaryOp .Add) rAddL := OpR.weak op_add fun x y H Q h => by
  obtain ⟨i, j, rfl, rfl, q⟩ := h
  exact ⟨i, j, rfl, rfl, q _ rfl⟩
def rSubL : R2 := fun x y H Q => ∃ i j : Int, x = .int i ∧ y = .int j ∧ ∀ z : Int, z = i - j → Q (.int z) H
theorem op_subL : OpR X (binaryOp .Sub) rSubL := OpR.weak op_sub fun x y H Q h => by
  obtain ⟨i, j, rfl, rfl, q⟩ := h
  exact ⟨i, j, rfl, rfl, q _ rfl⟩
def rDivL : R2 := fun x y H Q => ∃ i j : Int, x = .int i ∧ y = .int j ∧ CDivW i j ∧ ∀ z : Int, z = i / j → Q (.int z) H
theorem op_divL : OpR X (binaryOp .FloorDiv) rDivL := OpR.weak op_fdivW fun x y H Q h => by
  obtain ⟨i, j, rfl, rfl, h2, q⟩ := h
  exact ⟨i, j, rfl, rfl, h2, q _ rfl⟩
def rSetLL : V → V → V → Hp → (Hp → Prop) → Prop := fun o i v H Q => ∃ p xs k j, o = .ref p ∧ i = .int k ∧ H p = some (.lst xs) ∧ ixN xs.length k = some j ∧ ∀ H', H' = upd H p (.lst (xs.set j v)) → Q H'
theorem set_listL : PSet X rSetLL := fun pn s σ H o i v ov iv u Q I a b c h => set_list pn s σ H o i v ov iv u Q I a b c (by
  obtain ⟨p, xs, k, j, e1, e2, e3, e4, q⟩ := h
  exact ⟨p, xs, k, j, e1, e2, e3, e4, q _ rfl⟩)
def tTupL (t : TA) : TE := fun σ H Q => t σ H fun xs H1 => xs.length ≤ sizeLine ∧ ∀ p H2, H1 p = none → H2 = upd H1 p (.tup xs) → Q (.ref p) H2
def tLstL (t : TA) : TE := fun σ H Q => t σ H fun xs H1 => xs.length ≤ sizeLine ∧ ∀ p H2, H1 p = none → H2 = upd H1 p (.lst xs) → Q (.ref p) H2
/-- consequence -/
theorem PA.weak {es : List Expr} {t t' : TA} (h : PA X es t) (m : ∀ σ H Q, t' σ H Q → ∃ Q', t σ H Q' ∧ ∀ v H', Q' v H' → Q v H') : PA X es t' := ⟨fun po pn s σ H Q I q => by
  obtain ⟨Q', a, b⟩ := m _ _ _ q
  exact wpAny_mono (h.run po pn s σ H Q' I a) (fun us s1 ⟨vs, H1, I1, r1, q1⟩ => ⟨vs, H1, I1, r1, b _ _ q1⟩) fun _ _ z => z⟩
theorem pe_tupL {es : List Expr} {t : TA} {x1} {pos : Pos} (h : PA X es t) : PE X (.Tuple es x1 pos) (tTupL t) :=
  ⟨fun pn s σ H Q I q => (pe_tup (x1 := x1) (pos := pos) (PA.weak (t' := fun σ H Q => ∃ Q', t σ H Q' ∧ ∀ v H', Q' v H' → Q v H') h fun _ _ _ z => z)).run pn s σ H Q I ⟨_, q, fun xs H1 z => ⟨z.1, fun p hp => z.2 p _ hp rfl⟩⟩⟩
theorem pe_lstL {es : List Expr} {t : TA} {pos : Pos} (h : PA X es t) : PE X (.List es pos) (tLstL t) :=
  ⟨fun pn s σ H Q I q => (pe_lst (pos := pos) (PA.weak (t' := fun σ H Q => ∃ Q', t σ H Q' ∧ ∀ v H', Q' v H' → Q v H') h fun _ _ _ z => z)).run pn s σ H Q I ⟨_, q, fun xs H1 z => ⟨z.1, fun p hp => z.2 p _ hp rfl⟩⟩⟩
end

theorem sz {n : Nat} (h : n ≤ 100000) : n ≤ sizeLine := Nat.le_trans h (by decide)
theorem szl {n : Nat} (h : n < 100000) : n < sizeLine := Nat.lt_of_lt_of_le h (by decide)
theorem atI_in {α : Type} {xs : List α} {i : Int} (h0 : 0 ≤ i) (h : i < xs.length) : ∃ v, atI xs i = some v ∧ v ∈ xs ∧ xs[i.toNat]? = some v := by
  have h2 : i.toNat < xs.length := by omega
  have e : xs[i.toNat]? = some xs[i.toNat] := List.getElem?_eq_getElem h2
  refine ⟨xs[i.toNat], ?_, List.getElem_mem h2, e⟩
  have := atI_nat e
  rwa [Int.toNat_of_nonneg h0] at this
theorem ixN_in {n : Nat} {i : Int} (h0 : 0 ≤ i) (h : i < n) : ixN n i = some i.toNat := by
  unfold ixN
  rw [if_pos h0, if_pos h]

/-! ### rules whose written part is named (for comprehensions) -/
section
variable {X : Cx} {K : PySem.W.Frag}
theorem call_tupK (e : X.K = K := by rfl) : CallR X (.type "tuple") (fun xs H Q => ∃ p ys, xs = [.ref p] ∧ ((SqL K H p ys ∧ ∀ l, H l = none → Q (.ref l) (upd H l (.tup ys))) ∨ (SqT K H p ys ∧ Q (.ref p) H))) := by
  subst e
  exact call_tuple_of
theorem call_lenK (e : X.K = K := by rfl) : CallR X (.builtin "len") (fun xs H Q => ∃ x n, xs = [x] ∧ LenV K x H n ∧ Q (.int n) H) := by
  subst e
  exact call_len
theorem ix_tupK (e : X.K = K := by rfl) : IxR X (rIxT K) := by
  subst e
  exact ix_tup
theorem ix_listK (e : X.K = K := by rfl) : IxR X (rIxL K) := by
  subst e
  exact ix_list
end
end Rt
namespace Rt
open PySem PySem.Spec PyProof.Rows L2
/-! ### the drawn list: cells, the turn, the rests -/
structure Gd where
  d : Addr
  c : Addr
  r : Addr
  n : Nat
structure Dr (g : Gd) (t : Int) (H : Hp) : Prop where
  hd : H g.d = some (.lst [.ref g.c, .int t, .ref g.r])
  hc : ∃ cs : List Int, H g.c = some (.lst (cs.map V.int)) ∧ cs.length = g.n
  hr : ∃ rs : List Int, H g.r = some (.lst (rs.map V.int)) ∧ rs.length = g.n
  dc : g.d ≠ g.c
  dr : g.d ≠ g.r
  cr : g.c ≠ g.r
  n0 : 0 < g.n
  n63 : g.n ≤ 63
  t0 : 0 ≤ t
/-- so many draws may still come -/
def Fu (g : Gd) (B : Nat) (H : Hp) : Prop := ∃ t : Int, Dr g t H ∧ t + B ≤ 1000000
/-- all but the drawn list's own things is as it was -/
def Kp (g : Gd) (H H' : Hp) : Prop := ∀ p o, p ≠ g.d → p ≠ g.r → H p = some o → H' p = some o
/-- tuples are as they were -/
def Tk (H H' : Hp) : Prop := ∀ p xs, H p = some (.tup xs) → H' p = some (.tup xs)
structure Gd.Off (g : Gd) (p : Addr) : Prop where
  d : p ≠ g.d
  c : p ≠ g.c
  r : p ≠ g.r
theorem Kp.refl (g : Gd) (H : Hp) : Kp g H H := fun _ _ _ _ h => h
theorem Kp.trans {g : Gd} {H H1 H2 : Hp} (a : Kp g H H1) (b : Kp g H1 H2) : Kp g H H2 := fun p o h1 h2 h => b p o h1 h2 (a p o h1 h2 h)
theorem Kp.new {g : Gd} {H : Hp} {p : Addr} {o : HO} (h : H p = none) : Kp g H (upd H p o) := fun q u _ _ e => by
  rw [upd_ne (ne_of_none e h)]
  exact e
/-- what H does not know may change -/
theorem Kp.mut {g : Gd} {H H' : Hp} {p : Addr} {o : HO} (e : Kp g H H') (h : H p = none) : Kp g H (upd H' p o) := fun a u h1 h2 ha => by
  rw [upd_ne (ne_of_none ha h)]
  exact e a u h1 h2 ha
theorem Kp.off {g : Gd} {H H' : Hp} {p : Addr} {o : HO} (a : Kp g H H') (f : g.Off p) (h : H p = some o) : H' p = some o := a p o f.d f.r h
theorem Tk.refl (H : Hp) : Tk H H := fun _ _ h => h
theorem Tk.trans {H H1 H2 : Hp} (a : Tk H H1) (b : Tk H1 H2) : Tk H H2 := fun p xs h => b p xs (a p xs h)
theorem Tk.new {H : Hp} {p : Addr} {o : HO} (h : H p = none) : Tk H (upd H p o) := fun q u e => by
  rw [upd_ne (ne_of_none e h)]
  exact e
theorem Tk.lst {H : Hp} {p : Addr} {xs ys : List V} (h : H p = some (.lst xs)) : Tk H (upd H p (.lst ys)) := fun q u e => by
  rw [upd_ne (fun z => by rw [z, h] at e; cases e)]
  exact e
theorem Fu.mono {g : Gd} {B B' : Nat} {H : Hp} (h : Fu g B H) (e : B' ≤ B) : Fu g B' H := by
  obtain ⟨t, a, b⟩ := h
  exact ⟨t, a, by omega⟩
theorem Fu.tk {g : Gd} {B : Nat} {H H' : Hp} (h : Fu g B H) (k : Kp g H H') : Tk H H' := fun p xs e => by
  obtain ⟨t, a, b⟩ := h
  obtain ⟨rs, hr, _⟩ := a.hr
  exact k p _ (fun z => by rw [z, a.hd] at e; cases e) (fun z => by rw [z, hr] at e; cases e) e
theorem Fu.off {g : Gd} {B : Nat} {H : Hp} {p : Addr} (h : Fu g B H) (e : H p = none) : g.Off p := by
  obtain ⟨t, a, b⟩ := h
  obtain ⟨rs, hr, _⟩ := a.hr
  obtain ⟨cs, hc, _⟩ := a.hc
  exact ⟨fun z => (by rw [z, a.hd] at e; cases e), fun z => (by rw [z, hc] at e; cases e), fun z => (by rw [z, hr] at e; cases e)⟩
theorem Fu.upd {g : Gd} {B : Nat} {H : Hp} {p : Addr} {o : HO} (h : Fu g B H) (f : g.Off p) : Fu g B (L2.upd H p o) := by
  obtain ⟨t, a, b⟩ := h
  obtain ⟨cs, hc, ec⟩ := a.hc
  obtain ⟨rs, hr, er⟩ := a.hr
  refine ⟨t, ⟨?_, ⟨cs, ?_, ec⟩, ⟨rs, ?_, er⟩, a.dc, a.dr, a.cr, a.n0, a.n63, a.t0⟩, b⟩
  · rw [upd_ne f.d.symm]; exact a.hd
  · rw [upd_ne f.c.symm]; exact hc
  · rw [upd_ne f.r.symm]; exact hr
theorem Fu.new {g : Gd} {B : Nat} {H : Hp} {p : Addr} {o : HO} (h : Fu g B H) (e : H p = none) : Fu g B (L2.upd H p o) := h.upd (h.off e)
/-! ### comprehensions that draw -/
theorem lcR {g : Gd} {lo : Int} {n : Nat} {gt : TG} {tt : TT} {te : TE} {vs : List Nat} {σ : L2.St} {H1 : Hp} {D : Addr} {Qd : Hp → Prop} {B : Nat} (c : Nat) (Pt : Hp → V → Prop) (Pl : Nat → List V → Prop) (hD : H1 D = none) (hF : Fu g B H1) (hn : n ≤ 1000) (hB : n * c ≤ B)
    (mono : ∀ H H' x, Tk H H' → Pt H x → Pt H' x) (p0 : Pl 0 [])
    (hs : ∀ i H (B' : Nat), i < n → Fu g B' H → c ≤ B' → Kp g H1 H → ∀ (Qk : VK) (Qs : Hp → Prop),
      (∀ y H', Fu g (B' - c) H' → Kp g H H' → Pt H' y → (∀ acc, Pl i acc → Pl (i + 1) (acc ++ [y])) → Qk y H') → (∀ H', Fu g (B' - c) H' → Kp g H H' → (∀ acc, Pl i acc → Pl (i + 1) acc) → Qs H') →
      gt (.int (lo + i)) (wipe σ vs) H fun σ2 H2 => wipe σ2 vs = wipe σ vs ∧ tt σ2 H2 fun b H3 => if b = true then te σ2 H3 Qk else Qs H3)
    (hd : ∀ H acc, Fu g (B - n * c) H → Kp g H1 H → H D = some (.lst acc) → acc.length ≤ n → Pl n acc → (∀ x ∈ acc, Pt H x) → Qd H) :
    ∃ W : Nat → Nat → Hp → Prop, (∃ m, W 0 m (upd H1 D (.lst []))) ∧ ∀ i m H, W i m H →
      ((Itr lo n).stop i H ∧ Qd H) ∨ ((Itr lo n).go i H ∧ ∃ Nx : Hp → Prop, (∀ H', Nx H' → ∃ m', m' < m ∧ W (i + 1) m' H') ∧ ∀ x H', (Itr lo n).yld i H x H' → gt x (wipe σ vs) H' fun σ2 H2 => wipe σ2 vs = wipe σ vs ∧ tt σ2 H2 fun b H3 =>
        if b = true then te σ2 H3 fun y H4 => ∃ acc, H4 D = some (.lst acc) ∧ acc.length < sizeLine ∧ Nx (upd H4 D (.lst (acc ++ [y]))) else Nx H3) := by
  have oD := hF.off hD
  refine lc_range (Pv := fun i H => i ≤ n ∧ ∃ B', B' + i * c = B ∧ Fu g B' H ∧ Kp g H1 H ∧ ∃ acc, H D = some (.lst acc) ∧ acc.length ≤ i ∧ Pl i acc ∧ ∀ x ∈ acc, Pt H x) ⟨Nat.zero_le _, B, by omega, hF.upd oD, Kp.new hD, [], upd_same, Nat.le_refl _, p0, fun x h => nomatch h⟩ (fun i H hi p => ?_) (fun H p => ?_)
  · obtain ⟨_, B', eB, f, k, acc, eD, el, pl, al⟩ := p
    have h1 : (i + 1) * c ≤ n * c := Nat.mul_le_mul_right c hi
    have h2 : (i + 1) * c = i * c + c := Nat.succ_mul i c
    refine hs i H B' hi f (by omega) k _ _ (fun y H' f' k' py ply => ?_) (fun H' f' k' ply => ?_)
    · have eD' := k'.off oD eD
      refine ⟨acc, eD', szl (by omega), hi, B' - c, by omega, f'.upd oD, (k.trans k').mut hD, acc ++ [y], upd_same, by rw [List.length_append]; simp; omega, ply acc pl, fun x hx => ?_⟩
      rcases List.mem_append.mp hx with hx | hx
      · exact mono _ _ _ (Tk.lst eD') (mono _ _ _ (f.tk k') (al x hx))
      · have e : x = y := by simpa using hx
        subst e
        exact mono _ _ _ (Tk.lst eD') py
    · exact ⟨hi, B' - c, by omega, f', k.trans k', acc, k'.off oD eD, by omega, ply acc pl, fun x hx => mono _ _ _ (f.tk k') (al x hx)⟩
  · obtain ⟨_, B', eB, f, k, acc, eD, el, pl, al⟩ := p
    exact hd H acc (f.mono (by omega)) k eD el pl al
theorem lcT {K : PySem.W.Frag} {a : Addr} {xs : List V} {g : Gd} {gt : TG} {tt : TT} {te : TE} {vs : List Nat} {σ : L2.St} {H1 : Hp} {D : Addr} {Qd : Hp → Prop} {B : Nat} (c : Nat) (Pt : Hp → V → Prop) (Pl : Nat → List V → Prop) (hD : H1 D = none) (hF : Fu g B H1) (hn : xs.length ≤ 1000) (hB : xs.length * c ≤ B)
    (hx : H1 a = some (.tup xs)) (mono : ∀ H H' x, Tk H H' → Pt H x → Pt H' x) (p0 : Pl 0 [])
    (hs : ∀ i x H (B' : Nat), xs[i]? = some x → Fu g B' H → c ≤ B' → Kp g H1 H → ∀ (Qk : VK) (Qs : Hp → Prop),
      (∀ y H', Fu g (B' - c) H' → Kp g H H' → Pt H' y → (∀ acc, Pl i acc → Pl (i + 1) (acc ++ [y])) → Qk y H') → (∀ H', Fu g (B' - c) H' → Kp g H H' → (∀ acc, Pl i acc → Pl (i + 1) acc) → Qs H') →
      gt x (wipe σ vs) H fun σ2 H2 => wipe σ2 vs = wipe σ vs ∧ tt σ2 H2 fun b H3 => if b = true then te σ2 H3 Qk else Qs H3)
    (hd : ∀ H acc, Fu g (B - xs.length * c) H → Kp g H1 H → H D = some (.lst acc) → acc.length ≤ xs.length → Pl xs.length acc → (∀ x ∈ acc, Pt H x) → Qd H) :
    ∃ W : Nat → Nat → Hp → Prop, (∃ m, W 0 m (upd H1 D (.lst []))) ∧ ∀ i m H, W i m H →
      ((Itt K a).stop i H ∧ Qd H) ∨ ((Itt K a).go i H ∧ ∃ Nx : Hp → Prop, (∀ H', Nx H' → ∃ m', m' < m ∧ W (i + 1) m' H') ∧ ∀ x H', (Itt K a).yld i H x H' → gt x (wipe σ vs) H' fun σ2 H2 => wipe σ2 vs = wipe σ vs ∧ tt σ2 H2 fun b H3 =>
        if b = true then te σ2 H3 fun y H4 => ∃ acc, H4 D = some (.lst acc) ∧ acc.length < sizeLine ∧ Nx (upd H4 D (.lst (acc ++ [y]))) else Nx H3) := by
  have oD := hF.off hD
  refine lc_tup (xs := xs) (Pv := fun i H => i ≤ xs.length ∧ ∃ B', B' + i * c = B ∧ Fu g B' H ∧ Kp g H1 H ∧ ∃ acc, H D = some (.lst acc) ∧ acc.length ≤ i ∧ Pl i acc ∧ ∀ x ∈ acc, Pt H x) ⟨Nat.zero_le _, B, by omega, hF.upd oD, Kp.new hD, [], upd_same, Nat.le_refl _, p0, fun x h => nomatch h⟩ (fun i H _ p => ?_) (fun i x H hi p => ?_) (fun H p => ?_)
  · obtain ⟨_, B', eB, f, k, acc, eD, el, pl, al⟩ := p
    exact SqT.of (hF.tk k a xs hx)
  · obtain ⟨_, B', eB, f, k, acc, eD, el, pl, al⟩ := p
    have hi' : i < xs.length := (List.getElem?_eq_some_iff.mp hi).1
    have h1 : (i + 1) * c ≤ xs.length * c := Nat.mul_le_mul_right c hi'
    have h2 : (i + 1) * c = i * c + c := Nat.succ_mul i c
    refine hs i x H B' hi f (by omega) k _ _ (fun y H' f' k' py ply => ?_) (fun H' f' k' ply => ?_)
    · have eD' := k'.off oD eD
      refine ⟨acc, eD', szl (by omega), hi', B' - c, by omega, f'.upd oD, (k.trans k').mut hD, acc ++ [y], upd_same, by rw [List.length_append]; simp; omega, ply acc pl, fun x hx => ?_⟩
      rcases List.mem_append.mp hx with hx | hx
      · exact mono _ _ _ (Tk.lst eD') (mono _ _ _ (f.tk k') (al x hx))
      · have e : x = y := by simpa using hx
        subst e
        exact mono _ _ _ (Tk.lst eD') py
    · exact ⟨hi', B' - c, by omega, f', k.trans k', acc, k'.off oD eD, by omega, ply acc pl, fun x hx => mono _ _ _ (f.tk k') (al x hx)⟩
  · obtain ⟨_, B', eB, f, k, acc, eD, el, pl, al⟩ := p
    exact hd H acc (f.mono (by omega)) k eD el pl al
end Rt
namespace Rt
open PySem PySem.Spec PyProof.Rows L2
theorem Fu.loc {g : Gd} {b : Nat} {H H' : Hp} (i : Fu g b H) (h1 : H' g.d = H g.d) (h2 : H' g.c = H g.c) (h3 : H' g.r = H g.r) : Fu g b H' := by
  obtain ⟨t, a, l⟩ := i
  obtain ⟨cs, hc, ec⟩ := a.hc
  obtain ⟨rs, hr, er⟩ := a.hr
  exact ⟨t, ⟨by rw [h1]; exact a.hd, ⟨cs, by rw [h2]; exact hc, ec⟩, ⟨rs, by rw [h3]; exact hr, er⟩, a.dc, a.dr, a.cr, a.n0, a.n63, a.t0⟩, l⟩
end Rt
namespace Rt
open PySem PySem.Spec PyProof.Rows L2
section
variable {X : Cx}
/-! ### 'm' * n -/
theorem fold_app : ∀ (l : List (Array Nat)) (b : Array Nat), (l.foldl (· ++ ·) b).toList = b.toList ++ (l.map Array.toList).flatten
  | [], b => by simp
  | x :: r, b => by
    show (r.foldl (· ++ ·) (b ++ x)).toList = _
    rw [fold_app r (b ++ x)]
    simp
def rRepS : R2 := fun x y H Q => ∃ (z : Str) (n : Int), x = .str z ∧ y = .int n ∧ 1 ≤ n ∧ n ≤ 100 ∧ 0 < z.length ∧ z.length ≤ 100 ∧ ∀ r : Str, r.cps.toList = (List.replicate n.toNat z.cps.toList).flatten → r.length = n.toNat * z.length → Q (.str r) H
theorem op_repS : OpR X (binaryOp .Mult) rRepS := by
  intro pn s σ H x y v u Q I rx ry h
  obtain ⟨z, n, rfl, rfl, h1, h2, h3, h4, q⟩ := h
  obtain ⟨t, rfl⟩ := rx
  obtain ⟨t', rfl⟩ := ry
  have hl : z.length * n.toNat ≤ 10000 := Nat.le_trans (Nat.mul_le_mul h4 (show n.toNat ≤ 100 by omega)) (by decide)
  have el : ∀ r : Str, r.cps.toList = (List.replicate n.toNat z.cps.toList).flatten → r.length = n.toNat * z.length := fun r e => by
    show r.cps.size = _
    rw [← Array.length_toList, e, List.length_flatten, List.map_replicate, List.sum_replicate_nat]
    show n.toNat * z.cps.toList.length = n.toNat * z.cps.size
    rw [Array.length_toList]
  refine PySem.P.mul_str ?_ (fun _ _ => ?_) (fun _ _ => ?_) ?_
  · rw [decide_eq_false (by omega), decide_eq_false (by omega)]; rfl
  · have : (100 : Int) ≤ (2 ^ 63 - 1) / n := (Int.le_ediv_iff_mul_le (by omega)).mpr (by omega)
    omega
  · show decide (z.length * n.toNat > sizeLine) = false
    exact decide_eq_false (by have := sz (n := z.length * n.toNat) (by omega); omega)
  · rw [if_neg (by omega)]
    by_cases e : n = 1
    · subst e
      rw [if_pos (by rfl)]
      have e1 : z.cps.toList = (List.replicate (1 : Int).toNat z.cps.toList).flatten := by simp
      exact ⟨.str z, H, I, ⟨_, rfl⟩, q z e1 (el z e1)⟩
    · rw [if_neg (by simp [e]; omega)]
      have e1 : (⟨(List.replicate n.toNat z.cps).foldl (· ++ ·) #[]⟩ : Str).cps.toList = (List.replicate n.toNat z.cps.toList).flatten := by
        show ((List.replicate n.toNat z.cps).foldl (· ++ ·) #[]).toList = _
        rw [fold_app, List.map_replicate]
        rfl
      refine ⟨?_, ⟨.str _, H, I.tok _, ⟨_, rfl⟩, q _ e1 (el _ e1)⟩⟩
      rw [el _ e1, Nat.mul_comm]
      exact sz (by omega)
/-! ### min, max of a tuple of ints -/
theorem holds_ints {h : Heap} : ∀ {ns : List Int} {us : List Value}, Vals (ns.map V.int) us → PySem.W.HoldAll h us ns
  | [], _, .nil => .nil
  | n :: r, _, .cons a t => by
    obtain ⟨tk, rfl⟩ := a
    exact .cons ⟨_, .int n tk⟩ (holds_ints t)
theorem minOf_le : ∀ (xs : List Int) (x : Int), PySem.W.minOf x xs ∈ x :: xs ∧ ∀ y ∈ x :: xs, PySem.W.minOf x xs ≤ y
  | [], x => ⟨List.mem_cons_self, fun y h => (by
    have e : y = x := by simpa using h
    subst e
    exact Int.le_refl _)⟩
  | z :: r, x => by
    have ih := minOf_le r (if z < x then z else x)
    have e : PySem.W.minOf x (z :: r) = PySem.W.minOf (if z < x then z else x) r := by
      show r.foldl _ (if decide (z < x) = true then z else x) = r.foldl _ (if z < x then z else x)
      simp only [decide_eq_true_eq]
    rw [e]
    have hm := ih.2 _ List.mem_cons_self
    have hx : (if z < x then z else x) ≤ x := by split <;> omega
    have hz : (if z < x then z else x) ≤ z := by split <;> omega
    refine ⟨?_, fun y h => ?_⟩
    · rcases List.mem_cons.mp ih.1 with h | h
      · rw [h]; split <;> simp
      · exact List.mem_cons_of_mem _ (List.mem_cons_of_mem _ h)
    · rcases List.mem_cons.mp h with h | h
      · rw [h]; exact Int.le_trans hm hx
      · rcases List.mem_cons.mp h with h | h
        · rw [h]; exact Int.le_trans hm hz
        · exact ih.2 y (List.mem_cons_of_mem _ h)
theorem maxOf_ge : ∀ (xs : List Int) (x : Int), PySem.W.maxOf x xs ∈ x :: xs ∧ ∀ y ∈ x :: xs, y ≤ PySem.W.maxOf x xs
  | [], x => ⟨List.mem_cons_self, fun y h => (by
    have e : y = x := by simpa using h
    subst e
    exact Int.le_refl _)⟩
  | z :: r, x => by
    have ih := maxOf_ge r (if x < z then z else x)
    have e : PySem.W.maxOf x (z :: r) = PySem.W.maxOf (if x < z then z else x) r := by
      show r.foldl _ (if decide (x < z) = true then z else x) = r.foldl _ (if x < z then z else x)
      simp only [decide_eq_true_eq]
    rw [e]
    have hm := ih.2 _ List.mem_cons_self
    have hx : x ≤ (if x < z then z else x) := by split <;> omega
    have hz : z ≤ (if x < z then z else x) := by split <;> omega
    refine ⟨?_, fun y h => ?_⟩
    · rcases List.mem_cons.mp ih.1 with h | h
      · rw [h]; split <;> simp
      · exact List.mem_cons_of_mem _ (List.mem_cons_of_mem _ h)
    · rcases List.mem_cons.mp h with h | h
      · rw [h]; exact Int.le_trans hx hm
      · rcases List.mem_cons.mp h with h | h
        · rw [h]; exact Int.le_trans hz hm
        · exact ih.2 y (List.mem_cons_of_mem _ h)
def rMinT (K : PySem.W.Frag) : List V → Hp → VK → Prop := fun vs H Q => ∃ (a : Addr) (ns : List Int), vs = [V.ref a] ∧ SqT K H a (ns.map V.int) ∧ 0 < ns.length ∧ ∀ m, m ∈ ns → (∀ y, y ∈ ns → m ≤ y) → Q (.int m) H
def rMaxT (K : PySem.W.Frag) : List V → Hp → VK → Prop := fun vs H Q => ∃ (a : Addr) (ns : List Int), vs = [V.ref a] ∧ SqT K H a (ns.map V.int) ∧ 0 < ns.length ∧ ∀ m, m ∈ ns → (∀ y, y ∈ ns → y ≤ m) → Q (.int m) H
theorem cr_minT (hc : X.calm = true) (hu : X.A.units + 64 < cLine) : CallR X (.builtin "min") (rMinT X.K) := by
  intro pn s σ H vs us Q I r h
  obtain ⟨a, ns, rfl, hs, hne, q⟩ := h
  obtain ⟨its, rv, hl, _⟩ := I.tuple hs
  rw [Vals.ref1 r]
  cases ns with
  | nil => exact absurd hne (by decide)
  | cons x xs =>
    have hH : PySem.W.HoldAll s.heap its.toArray.toList (x :: xs) := holds_ints (ns := x :: xs) rv
    refine PySem.W.min_tuple_datum (I.ok.hd hc) hl hH (by show X.A.units + 1 + 0 < cLine; omega) fun i v h' tk hv ho hk => ?_
    obtain ⟨as, ho⟩ := ho
    cases ho with
    | int _ t => exact ⟨.int _, H, I.kept hk, ⟨_, rfl⟩, q _ (minOf_le xs x).1 (minOf_le xs x).2⟩
theorem cr_maxT (hc : X.calm = true) (hu : X.A.units + 64 < cLine) : CallR X (.builtin "max") (rMaxT X.K) := by
  intro pn s σ H vs us Q I r h
  obtain ⟨a, ns, rfl, hs, hne, q⟩ := h
  obtain ⟨its, rv, hl, _⟩ := I.tuple hs
  rw [Vals.ref1 r]
  cases ns with
  | nil => exact absurd hne (by decide)
  | cons x xs =>
    have hH : PySem.W.HoldAll s.heap its.toArray.toList (x :: xs) := holds_ints (ns := x :: xs) rv
    refine PySem.W.max_tuple_datum (I.ok.hd hc) hl hH (by show X.A.units + 1 + 0 < cLine; omega) fun i v h' tk hv ho hk => ?_
    obtain ⟨as, ho⟩ := ho
    cases ho with
    | int _ t => exact ⟨.int _, H, I.kept hk, ⟨_, rfl⟩, q _ (maxOf_ge xs x).1 (maxOf_ge xs x).2⟩
end
end Rt
namespace Rt
open PySem PySem.Spec PyProof.Rows L2
section
variable {prog : Program} {w : World} {A : Around} {E : Value → Shared → Prop} {s : Shared}
theorem sa_rev {sl : Addr} {vl vu vk : Value} {n : Nat} {Q : Int × Int × Nat → Shared → Prop} (hs : s.heap.IsSliceOf sl vl vu vk) (pl : IsPart vl none) (pu : IsPart vu none) (pk : IsPart vk (some (-1)))
    (h : Q ((n : Int) - 1, -1, n) s) : wpAny (model prog w) A (Builtin.Slice.sliceApplied (.ref sl) (pure (n : Int))) Q E s := by
  obtain ⟨os, hos, hcs, hds⟩ := id hs
  unfold Builtin.Slice.sliceApplied Builtin.Slice.sliceFields
  refine wpAny_bind (wpAny_bind (wpAny_field hos hds (x := vl) rfl (wpAny_bind (wpAny_field hos hds (x := vu) rfl (wpAny_bind (wpAny_field hos hds (x := vk) rfl (wpAny_pure ?_)))))))
  refine wpAny_bind (HT.slicePart_ pk ?_)
  show wpAny _ _ (if ((-1 : Int) == 0) = true then _ else _) _ _ s
  rw [if_neg (by decide)]
  refine wpAny_bind (HT.slicePart_ pl (wpAny_bind (HT.slicePart_ pu (wpAny_bind (wpAny_pure ?_)))))
  have e1 : Builtin.Slice.sliceAdjust none none (-1) (n : Int) = ((n : Int) - 1, -1) := by
    unfold Builtin.Slice.sliceAdjust
    simp
  have e2 : Builtin.Slice.slicePlaces ((n : Int) - 1) (-1) (-1) = n := by
    unfold Builtin.Slice.slicePlaces
    rw [if_neg (by decide)]
    by_cases hn : (n : Int) - 1 > -1
    · rw [if_pos hn, show (-(-1) : Int) = 1 by decide, Int.ediv_one]
      omega
    · rw [if_neg hn]
      omega
  show wpAny _ _ (match Builtin.Slice.sliceAdjust none none (-1) (n : Int) with | (lo, hi) => pure (lo, (-1 : Int), Builtin.Slice.slicePlaces lo hi (-1))) _ _ s
  rw [e1]
  show wpAny _ _ (pure ((n : Int) - 1, (-1 : Int), Builtin.Slice.slicePlaces ((n : Int) - 1) (-1) (-1))) _ _ s
  rw [e2]
  exact wpAny_pure h
theorem fm_congr {α β : Type} {f g : α → Option β} : ∀ {l : List α}, (∀ x ∈ l, f x = g x) → l.filterMap f = l.filterMap g
  | [], _ => rfl
  | a :: r, h => by
    rw [List.filterMap_cons, List.filterMap_cons, h a List.mem_cons_self, fm_congr fun x hx => h x (List.mem_cons_of_mem _ hx)]
theorem pick_rev (xs : Array Value) : ((List.range xs.size).filterMap fun (m : Nat) => xs[(((xs.size : Int) - 1) + (m : Int) * (-1)).toNat]?).toArray = xs.toList.reverse.toArray := by
  congr 1
  have e : (List.range xs.size).filterMap (fun (m : Nat) => xs[(((xs.size : Int) - 1) + (m : Int) * (-1)).toNat]?) = (List.range xs.size).filterMap (fun (m : Nat) => xs.toList.reverse[m]?) := by
    refine fm_congr fun m hm => ?_
    have hm := List.mem_range.mp hm
    have e2 : (((xs.size : Int) - 1) + (m : Int) * (-1)).toNat = xs.size - 1 - m := by omega
    rw [e2, List.getElem?_reverse (by rw [Array.length_toList]; exact hm), Array.length_toList, Array.getElem?_toList]
  rw [e]
  have g : ∀ l : List Value, (List.range l.length).filterMap (fun m => l[m]?) = l := by
    intro l
    induction l with
    | nil => rfl
    | cons a r ih =>
      rw [List.length_cons, List.range_succ_eq_map, List.filterMap_cons]
      simp only [List.getElem?_cons_zero, List.filterMap_map]
      congr 1
  have := g xs.toList.reverse
  rwa [List.length_reverse, Array.length_toList] at this
theorem item_rev {t sl : Addr} {items : Array Value} {vl vu vk : Value} {Q : Value → Shared → Prop} (ht : IsTup s.heap t items) (hs : s.heap.IsSliceOf sl vl vu vk) (pl : IsPart vl none) (pu : IsPart vu none) (pk : IsPart vk (some (-1)))
    (h : Q (.ref s.heap.objs.size) { s with heap := s.heap.push { cls := .type "tuple", data := .seq items.toList.reverse.toArray } })
    (hsz : items.size ≤ sizeLine) : wpAny (model prog w) A (getItem (.ref t) (.ref sl)) Q E s := by
  have htk : sizeOk (.seq items.toList.reverse.toArray) := by
    show items.toList.reverse.toArray.size ≤ sizeLine
    rw [List.size_toArray, List.length_reverse, Array.length_toList]
    exact hsz
  obtain ⟨os, hos, hcs, hds⟩ := id hs
  have hT2 : s.TypeIs (.ref sl) "slice" := ⟨os, hos, hcs⟩
  unfold getItem
  try with_reducible refine wpAny_holding ?_
  first | refine wpAny_bind (wpAny_pure ?_) | skip
  refine wpAny_bind (wpAny_sequenceKey ht.typeIs (by decide) ?_)
  refine wpAny_bind (wpAny_callSpecial?_slot (name := Str.ofString "__getitem__") ht.typeIs PyProof.Rows.slot_tuple_getitem (wpAny_call_entry PyProof.Rows.slot_tuple_getitem ht.typeIs entry_tuple_getitem ?_ (args_tuple_getitem _ _)))
  show wpAny _ _ (Builtin.Tuple.tupleItemsOf (.ref t) >>= _) _ _ s
  refine wpAny_bind (tupleItemsOf_ ht (wpAny_bind (wpAny_typeOf hT2 ?_)))
  rw [if_pos (by decide)]
  refine wpAny_bind (sa_rev (n := items.size) hs pl pu pk ?_)
  have hno : ¬ ((((items.size : Int) - 1) == 0 && (-1 : Int) == 1 && items.size == items.size) = true) := by
    intro z
    rw [Bool.and_eq_true, Bool.and_eq_true] at z
    exact absurd z.1.2 (by decide)
  show wpAny _ _ (if (((items.size : Int) - 1) == 0 && (-1 : Int) == 1 && items.size == items.size) = true then _ else _) _ _ s
  rw [if_neg hno, pick_rev]
  first
    | exact wpAny_bind (m := Builtin.Tuple.tupleExact _) (wpAny_newObj_type (wpAny_pure ⟨_, rfl, wpAny_pure h⟩) htk)
    | exact wpAny_bind (m := Builtin.Tuple.tupleExact _) (wpAny_newObj_type (wpAny_bind (wpAny_pure (wpAny_pure ⟨_, rfl, wpAny_pure h⟩))) htk)
    | exact wpAny_bind (wpAny_bind (m := Builtin.Tuple.tupleExact _) (wpAny_newObj_type (wpAny_pure (wpAny_pure ⟨_, rfl, wpAny_pure h⟩)) htk))
    | exact wpAny_bind (wpAny_bind (m := Builtin.Tuple.tupleExact _) (wpAny_newObj_type (wpAny_pure ⟨_, rfl, wpAny_pure h⟩) htk))
end
section
variable {X : Cx}
def tRevT (K : PySem.W.Frag) (te : TE) : TE := fun σ H Q => te σ H fun x H1 => ∃ a xs, x = .ref a ∧ SqT K H1 a xs ∧ ∀ p, H1 p = none → Q (.ref p) (upd H1 p (.tup xs.reverse))
theorem pe_revT {e : Expr} {te : TE} {k : Nat} {p1 p2 p3 pos : Pos} (he : PE X e te) : PE X (.Subscript e (.Slice none none (some (.UnaryOp .USub (.Constant (.int 1) k p1) p2)) p3) pos) (tRevT X.K te) := by
  refine ⟨fun pn s σ H Q I h => ?_⟩
  refine Subscript_ (thn (he.run pn s σ H _ I h) fun v s1 ⟨x, H1, I1, r1, q1⟩ => ?_)
  obtain ⟨a, xs, ex, hx, q⟩ := q1
  subst ex
  cases r1
  have hst : PO X (some (.UnaryOp .USub (.Constant (.int 1) k p1) p2)) (tPart (tUn (rU fun i => .int (-i)) (tC (.int 1)))) := po_some (pe_un un_neg pe_int)
  refine wpAny_Slice (thn (po_none.run pn s1 σ H1 (fun o H2 => o = none ∧ H2 = H1) I1 ⟨rfl, rfl⟩) fun vl s2 ⟨l, H2, I2, pl, el, e2⟩ => ?_)
  subst el e2
  refine thn (po_none.run pn s2 σ H2 (fun o H3 => o = none ∧ H3 = H2) I2 ⟨rfl, rfl⟩) fun vu s3 ⟨u, H3, I3, pu, eu, e3⟩ => ?_
  subst eu e3
  refine thn (hst.run pn s3 σ H3 (fun o H4 => o = some (-1) ∧ H4 = H3) I3 ⟨1, rfl, -1, rfl, rfl, rfl⟩) fun vs s4 ⟨o, H4, I4, ps, eo, e4⟩ => ?_
  subst eo e4
  have I5 : Inv X pn σ H4 { s4 with heap := s4.heap.push { cls := .type "slice", data := .fields #[vl, vu, vs] } } := I4.kept (t' := s4.toks) fun b ob q => Heap.get?_push_of_some _ q
  obtain ⟨its, r, ht, hz⟩ := I5.tuple hx
  have hlen := r.length
  show wpAny (model X.prog X.w) X.A (subscriptTail e (.Slice none none (some (.UnaryOp .USub (.Constant (.int 1) k p1) p2)) p3) (.ref a) (.ref s4.heap.objs.size)) (EP X pn σ Q) X.xe { s4 with heap := s4.heap.push { cls := .type "slice", data := .fields #[vl, vu, vs] } }
  refine tail_any (ops := [.ref a, .ref s4.heap.objs.size]) ht.typeIs (PyProof.Rows.slot_tuple_getitem.lookup) ?_ (by with_unfolding_all rfl)
  refine item_rev ht (Heap.IsSliceOf.new _ vl vu vs) pl pu ps ?_ (by rw [List.size_toArray]; omega)
  refine ⟨.ref _, _, I5.laid (t' := s4.toks) (o := .tup xs.reverse) (fun b ob q => Heap.get?_push_of_some _ q) (Nat.le_refl _) ?_, rfl, q _ (I5.hok.fresh (Nat.le_refl _))⟩
  exact ⟨by rw [List.length_reverse]; exact hz, _, r.reverse, IsTup.new _ _⟩
end
end Rt
namespace Rt
open PySem PySem.Spec PyProof.Rows L2
section
variable {prog : Program} {w : World} {A : Around} {E : Value → Shared → Prop} {s : Shared}
theorem collect_tup {t : Addr} {us : List Value} {Q : List Value → Shared → Prop} (ht : IsTup s.heap t us.toArray)
    (hq : Q us { s with heap := (s.heap.push (seqObj "list" #[] 0)).update s.heap.objs.size (Obj.mapSeq (· ++ us.toArray)) }) (hz : us.length ≤ sizeLine) :
    wpAny (model prog w) A (collect (.ref t)) Q E s := by
  obtain ⟨ob, hob, hcl, m, hdt⟩ := id ht
  unfold collect
  refine wpAny_bind (wpAny_runValue (codeAny_builtin entry_proto_collect' ?_))
  show wpAny _ _ (do again (.builtin "list.__iadd__" ⟨[← newList [], .ref t], []⟩)) _ _ s
  refine wpAny_bind (wpAny_newList (wpAny_pure ⟨Code.quiet_builtin _ (by decide +kernel), codeAny_builtin entry_list_iadd' ?_⟩))
  show wpAny _ _ (Builtin.List.listExtendWith (.ref s.heap.objs.size) (.ref t) (.ref s.heap.objs.size)) _ _ { s with heap := s.heap.push (seqObj "list" #[] 0) }
  unfold Builtin.List.listExtendWith
  have hob' : (s.heap.push (seqObj "list" #[] 0)).get? t = some ob := Heap.get?_push_of_some _ hob
  refine wpAny_bind (wpAny_typeOf (T := "tuple") ⟨ob, hob', hcl⟩ ?_)
  have htt : (Value.type "tuple" == Value.type "tuple") = true := by rfl
  rw [if_pos (by rw [htt]; simp)]
  refine wpAny_bind (listItems_at hob' hdt ?_)
  refine wpAny_bind (listItems_at (xs := #[]) (n := 0) (Heap.get?_push_size _ rfl) rfl ?_)
  rw [if_neg (by simp)]
  refine wpAny_bind (listUpdate_at (xs := #[]) (n := 0) (Heap.get?_push_size _ rfl) rfl ?_ (Nat.zero_le _) (by show (#[] ++ us.toArray).size ≤ sizeLine + 1; simp only [Array.size_append, List.size_toArray, List.length_nil]; omega))
  refine wpAny_pure ?_
  show wpAny (model prog w) A (do
      let ld ← load s.heap.objs.size
      match ld.data with
      | .seq xs _ => pure xs.toList
      | _ => unsupported "internal:collect") Q E { s with heap := (s.heap.push (seqObj "list" #[] 0)).update s.heap.objs.size (Obj.mapSeq (· ++ us.toArray)) }
  refine wpAny_bind (wpAny_load (get?_update_seq (Heap.get?_push_size _ rfl) _) ?_)
  show wpAny _ _ (pure ((#[] : Array Value) ++ us.toArray).toList) Q E _
  rw [show ((#[] : Array Value) ++ us.toArray).toList = us by simp]
  exact wpAny_pure hq
theorem sorted_tup {t : Addr} {us : List Value} {ns : List Int} {Q : Value → Shared → Prop} (ht : IsTup s.heap t us.toArray) (hI : IntsAre us ns) (h64 : us.length < 64)
    (hq : ∀ (out : Array Value) (ns' : List Int), IntsAre out.toList ns' → ns'.Perm ns → ns'.Pairwise (· ≤ ·) → Q (.ref (s.heap.objs.size + 1)) { s with heap := sortedAll s.heap us out }) :
    wpAny (model prog w) A (call (.builtin "sorted") [.ref t]) Q E s := by
  refine Calls.call_function_entry kind_sorted plain_sorted entry_sorted (args_sorted1 _) ?_
  unfold Builtin.«sorted»
  refine wpAny_bind (m := checkCount "sorted" 1 1 _) (wpAny_pure ?_)
  refine wpAny_bind (collect_tup ht ?_ (small64 h64))
  refine wpAny_bind (wpAny_newList ?_)
  have e1 : ((s.heap.push (seqObj "list" #[] 0)).update s.heap.objs.size (Obj.mapSeq (· ++ us.toArray))).objs.size = s.heap.objs.size + 1 := by
    rw [Heap.size_update, size_push']
  have hoL : (((s.heap.push (seqObj "list" #[] 0)).update s.heap.objs.size (Obj.mapSeq (· ++ us.toArray))).push (seqObj "list" us.toArray 0)).get? (s.heap.objs.size + 1) = some (seqObj "list" us.toArray 0) := by
    rw [← e1]; exact Heap.get?_push_size _ rfl
  show wpAny _ _ _ _ _ { s with heap := ((s.heap.push (seqObj "list" #[] 0)).update s.heap.objs.size (Obj.mapSeq (· ++ us.toArray))).push (seqObj "list" us.toArray 0) }
  rw [e1]
  refine wpAny_bind (wpAny_holding (wpAny_call_entry slot_list_sort ⟨_, hoL, rfl⟩ entry_list_sort (list_sort_tree hoL hI h64 fun out ns' a1 a2 a3 => ⟨_, rfl, ?_⟩) (args_list_sort _)))
  exact wpAny_pure ⟨_, rfl, hq out ns' a1 a2 a3⟩
end
section
variable {X : Cx}
def rSortedTp (K : PySem.W.Frag) : List V → Hp → VK → Prop := fun vs H Q => ∃ (a : Addr) (ns : List Int), vs = [V.ref a] ∧ SqT K H a (ns.map V.int) ∧ ns.length < 64 ∧
  ∀ (ns' : List Int) (p : Addr) (H' : Hp), ns'.Perm ns → ns'.Pairwise (· ≤ ·) → H p = none → H' = upd H p (.lst (ns'.map V.int)) → Q (.ref p) H'
theorem cr_sortedTp : CallR X (.builtin "sorted") (rSortedTp X.K) := by
  intro pn s σ H vs us Q I r h
  obtain ⟨a, ns, rfl, hs, h64, q⟩ := h
  obtain ⟨its, rv, hl, _⟩ := I.tuple hs
  rw [Vals.ref1 r]
  have hi := rv.ints
  refine sorted_tup hl hi (by rw [hi.length]; exact h64) fun out ns' h1 h2 h3 => ?_
  obtain ⟨ep, he'⟩ := PyProof.Rows.sortedAll_at s.heap its out
  have hln : (ns'.map V.int).length ≤ sizeLine := by rw [List.length_map, h2.length_eq]; exact small64 h64
  exact ⟨.ref _, upd H (s.heap.objs.size + 1) (.lst (ns'.map V.int)), I.laid (t' := s.toks) (fun _ _ => PyProof.Rows.sortedAll_old) (Nat.le_succ _) ⟨hln, out.toList, ep, vals_of_ints h1, he'⟩, rfl, q ns' _ _ h2 h3 (I.hok.fresh (Nat.le_succ _)) rfl⟩
end
end Rt
namespace Rt
open PySem PySem.Spec PyProof.Rows L2
/-! ### defs that are called where nothing is being shown (no guard stands around) -/
structure FnG (P : Program) (w : World) (K : PySem.W.Frag) (mg : Str → Option Value) (base : Heap) (k : Nat) (f : Addr) (fd : FuncData) (ps : List Str) (sp : Sp) : Prop where
  many : ∀ vs H Q E, sp vs H Q E → vs.length = ps.length
  goes : ∀ (A : Around) (outer : List Env) (s : Shared) (H : Hp) (args : Args) (us : List Value) (vs : List V) (Q : VK) (E : XK), Room k A → A.guards = some [] → Env0 P w K mg base A outer s H → BindsTo s fd args (ps.zip us) → Vals vs us → sp vs H Q E →
    codeAny (model P w) A (.call (.ref f) args) (CR CX0 outer P w H s Q E) s
section
variable {P : Program} {w : World} {K : PySem.W.Frag} {mg : Str → Option Value} {base : Heap}
theorem okG {x qual : Str} {st : Stmt} {f : Addr} {fd : FuncData} {N ps : List Str} {k : Nat} {sp : Sp} (F : Fun K x qual st f fd) (S : FnScope N ps (defScope st)) (many : ∀ vs H Q E, sp vs H Q E → vs.length = ps.length)
    (walk : ∀ (cdv : Value) (A : Around) (outer : List Env) (s : Shared) (H : Hp) (vs : List V) (Q : VK) (E : XK), Room k (A.deeper (envOfC qual (defScope st) s.heap.objs.size f cdv)) → (A.deeper (envOfC qual (defScope st) s.heap.objs.size f cdv)).guards = some [] → sp vs H Q E →
      ∃ t, PSs (cxOf CX0 P w K mg base N qual (defScope st) f cdv A outer s H E).nox (defBody st) t ∧ t { nx := fun _ H' => Q .non H', rt := Q } (start N vs) H) : FnG P w K mg base (k + 1) f fd ps sp := by
  obtain ⟨oc, od, kV, doc, pm, an, cdv, ct, osl, rfl, lk, hcd⟩ := F.ex
  refine ⟨many, fun A outer s H args us vs Q E room free e0 binds vals hsp => ?_⟩
  have cnt := many vs H Q E hsp
  have stands : ∀ b o, base.get? b = some o → s.heap.get? b = some o := fun b o e => (e0.bs b o e).1
  have inK : K.In s.heap := e0.mod.kin.keeps stands
  have kinds : ∀ y ∈ ps.zip us, (defScope st).names.lookup y.1 = some .local ∨ ((defScope st).names.lookup y.1 = some .cell ∧ ((cellsFrom (s.heap.objs.size + 1) (defScope st).names []).lookup y.1).isSome = true) := by
    rintro ⟨nm, vl⟩ hm
    exact (S.par nm (List.of_mem_zip hm).1).imp id fun c => ⟨c, PySem.W.cellsFrom_some _ _ _ (.inl c)⟩
  refine codeAny_call_function room.depth (inK _ _ lk) rfl S.co S.gen rfl (PySem.W.codeRec_of inK hcd) (binds _ _ _ _ (wpAny_newFunctionEnv_cells S.kind kinds fun env he s1 fresh => ?_))
  subst he
  refine ⟨(e0.mod.nolimit.keeps stands).keeps fresh.toInCall.keep, codeAny_func ?_⟩
  obtain ⟨t, ht, hq⟩ := walk cdv A outer s H vs Q E (room.deeper _) free hsp
  have J0 : Inv (cxOf CX0 P w K mg base N qual (defScope st) f cdv A outer s H E) [] (start N vs) H s1 := inv_start S room.hd e0 cnt vals fresh
  refine wpAny_mono (ht.nox.run [] s1 (start N vs) H _ J0 hq) (fun fl s2 done => ?_) fun _ _ z => z
  cases fl with
  | ret u => obtain ⟨v, σ2, H2, J, rv, qv⟩ := done; exact ⟨v, H2, J.os, J.bare, J.base, J.hok, rv, qv⟩
  | next => obtain ⟨σ2, H2, J, qv⟩ := done; exact ⟨V.non, H2, J.os, J.bare, J.base, J.hok, rfl, qv⟩
  | brk => obtain ⟨_, _, _, qv⟩ := done; exact qv.elim
  | cont => obtain ⟨_, _, _, qv⟩ := done; exact qv.elim
theorem FnG.of {k : Nat} {f : Addr} {fd : FuncData} {ps : List Str} {sp : Sp} (F : FnOk P w K mg base CX0 k f fd ps sp) : FnG P w K mg base k f fd ps sp :=
  ⟨F.len, fun A outer s H args us vs Q E room _ => F.run A outer s H args us vs Q E room⟩
end
structure ClG (P : Program) (w : World) (K : PySem.W.Frag) (mg : Str → Option Value) (base : Heap) (k : Nat) (x : Str) (ps : List Str) (sp : Sp) : Prop where
  ex : ∃ (f : Addr) (fd : FuncData), FnG P w K mg base k f fd ps sp ∧ mg x = some (.ref f) ∧ PySem.W.keepIn K (.ref f) = true ∧ Binds K fd ps []
section
variable {X : Cx}
theorem run_G {k : Nat} {f : Addr} {fd : FuncData} {ps : List Str} {sp : Sp} {pn : List (Addr × Obj)} {σ : L2.St} {H : Hp} {s : Shared} {Q : VK} {us : List Value} {vs : List V} (F : FnG X.prog X.w X.K X.mg X.base k f fd ps sp) (room : Room k X.A) (free : X.A.guards = some []) (bd : Binds X.K fd ps [])
    (I : Inv X pn σ H s) (r : Vals vs us) (h : sp (vs ++ []) H Q E0) : wpAny (model X.prog X.w) X.A (call (.ref f) us) (EP X pn σ Q) X.xe s := by
  have r2 : Vals (vs ++ []) (us ++ []) := r.append .nil
  refine wpAny_call (codeAny_mono (F.goes X.A X.stack s H ⟨us, []⟩ (us ++ []) (vs ++ []) Q E0 room free I.env0 (bd s us I.kIn (by rw [← r2.length]; exact F.many _ _ _ _ h)) r2 h) fun res s2 hq => ?_)
  cases res with
  | error e => exact (hq : False).elim
  | ok fl => cases fl with
    | ret u => exact I.after hq
    | next => exact (hq : False).elim
    | brk => exact (hq : False).elim
    | cont => exact (hq : False).elim
theorem pe_clG {k : Nat} {x : Str} {ps : List Str} {sp : Sp} {p pos : Pos} {e : Expr} {es : List Expr} {t : TA} (C : ClG X.prog X.w X.K X.mg X.base k x ps sp) (room : Room k X.A) (free : X.A.guards = some []) (hg : Gl X x) (ha : PA X (e :: es) t)
    (hdb : (x == ("__debug__" : Str)) = false := by decide) (he : starEach (e :: es) X.env = (false, eval e X.env) :: starEach es X.env := by rfl) (hpl : (backTo pos (starEach es X.env)).any (·.1) = false := by rfl) :
    PE X (.Call (.Name x p) (e :: es) [] pos) (tCall sp [] E0 t) := by
  obtain ⟨f, fd, F, hm, hk, hb⟩ := C.ex
  refine ⟨fun pn s σ H Q I h => wpAny_Call_Name_kw (ld_glob I hg hm ?_ hdb)⟩
  exact PySem.W.callWith_K (h₀ := X.base) I.ok.mod.kin hk (thn (ha.run pos pn s σ H _ I h) fun us s1 ⟨vs, H1, I1, r, q⟩ => ⟨I1.kIn, run_G F room free hb I1 r q⟩) he hpl
/-! ### repr of data -/
def rRepr (K : PySem.W.Frag) : List V → Hp → VK → Prop := fun xs H Q => ∃ (a : Addr) (d : PyData), xs = [.ref a] ∧ Dp K H (.ref a) d ∧ d.showable = true ∧ d.hasDict = false ∧ d.depth ≤ 60 ∧ d.shown.length ≤ sizeLine ∧ ∀ z : Str, z = d.shown → Q (.str z) H
theorem call_repr (free : X.A.guards = some []) (hu : X.A.units + 64 < cLine) : CallR X (.builtin "repr") (rRepr X.K) := by
  intro pn s σ H xs us Q I r h
  obtain ⟨a, d, rfl, hd, h1, h2, h3, h4, q⟩ := h
  obtain ⟨u, rfl, r1⟩ := vals1 r
  obtain ⟨as, rd⟩ := Dp.reads I d _ u hd r1
  cases r1
  exact repr_of_reads' rd h1 (fun z => by rw [h2] at z; cases z) free (by omega) (fun _ _ e => e) (fun h' u tk hk => ⟨.str _, H, I.kept hk, ⟨_, rfl⟩, q _ rfl⟩) h4
def rReprB : List V → Hp → VK → Prop := fun xs H Q => ∃ b : Bool, xs = [.bl b] ∧ ∀ z : Str, z = (if b then Str.ofString "True" else Str.ofString "False") → Q (.str z) H
theorem call_reprB : CallR X (.builtin "repr") rReprB := by
  intro pn s σ H xs us Q I r h
  obtain ⟨b, rfl, q⟩ := h
  obtain ⟨u, rfl, r1⟩ := vals1 r
  cases r1
  exact PySem.P.repr_of_bool ⟨.str _, H, I.tok _, ⟨_, rfl⟩, q _ rfl⟩
end
/-! ### the law itself, called where no guard stands -/
theorem lawG {P : Program} {w : World} {K : PySem.W.Frag} {mg mb : Str → Option Value} {k : Nat} {fa a : Addr} {fd : FuncData} {x : Str} {sp : Sp} {s0 : Shared} {us : List Value} {ns : List Int}
    (inK : K.In s0.heap) (gl : s0.heap.Ns mainGlobals mg) (bl : s0.heap.Ns builtinsNs mb) (bb : ∀ x : Str, x ≠ "__name__" → mb x = bootBuiltins x) (nl : s0.heap.NoLimit) (ng : s0.gens = #[])
    (sc : s0.heap.get? a = some { cls := .type "list", data := .seq us.toArray }) (hin : IntsAre us ns) (short : ns.length ≤ sizeLine) (room : Room k callerA)
    (F : ∀ base : Heap, K.In base → base.Ns mainGlobals mg → FnG P w K mg base k fa fd [x] sp) (bd : ∀ (s : Shared) (u : Value), BindsTo s fd ⟨[u], []⟩ [(x, u)])
    (hsp : ∀ H : Hp, Only H → SqL K H a (ns.map V.int) → sp [.ref a] H (fun v _ => v = .bl true) E0) :
    codeAny (model P w) callerA (.call (.ref fa) ⟨[.ref a], []⟩) (fun r s2 => r = .ok (.ret (.bool true)) ∧ OldK s0.heap s2.heap ∧ s2.os = s0.os ∧ AllBare s2.gens) s0 := by
  have rel := vals_ints hin
  have main : ∀ H : Hp, Only H → SqL K H a (ns.map V.int) → HOk P w H s0.heap → (∀ b u, H b = some u → b = a ∧ K.lookup a = none) →
      codeAny (model P w) callerA (.call (.ref fa) ⟨[.ref a], []⟩) (fun r s2 => r = .ok (.ret (.bool true)) ∧ OldK s0.heap s2.heap ∧ s2.os = s0.os ∧ AllBare s2.gens) s0 := by
    intro H only seq hok just
    have free : ∀ {b : Addr}, (b = a → K.lookup a = none → False) → H b = none := fun {b} no => by
      cases z : H b with
      | none => rfl
      | some u => exact (no (just b u z).1 (just b u z).2).elim
    have spaces : ∀ {b : Addr} {m : Str → Option Value}, s0.heap.Ns b m → (hidT s0.heap H).Ns b m := fun {b m} h => by
      obtain ⟨o, es, ep, e, d, r⟩ := h
      refine ⟨o, es, ep, hidT_get e (free fun z _ => ?_), d, r⟩
      subst z
      rw [sc] at e
      cases e
      cases d
    have inB : K.In (hidT s0.heap H) := fun b o e => hidT_get (inK b o e) (free fun z n => by
      subst z
      rw [n] at e
      cases e)
    have md : Mod K mg (hidT s0.heap H) := by
      obtain ⟨mc, n1, n2⟩ := nl
      exact ⟨inB, spaces gl, ⟨mb, spaces bl, bb⟩, ⟨mc, spaces n1, n2⟩⟩
    have en : Env0 P w K mg (hidT s0.heap H) callerA [] s0 H := ⟨rfl, md, fun b o e => of_hidT e, Nat.le_of_eq (hidT_size _ _), trivial, (fun b z => nomatch (show b ∈ ([] : List Addr) from z)), hok, .of_eq ng⟩
    refine codeAny_mono ((F _ inB (spaces gl)).goes callerA [] s0 H ⟨[.ref a], []⟩ [.ref a] [.ref a] _ _ room rfl en (bd s0 (.ref a)) (.cons rfl .nil) (hsp H only seq)) fun r s2 h => ?_
    match r, h with
    | .error e, h => exact (h : False).elim
    | .ok .next, h => exact (h : False).elim
    | .ok .brk, h => exact (h : False).elim
    | .ok .cont, h => exact (h : False).elim
    | .ok (.ret u), h =>
      obtain ⟨v, H2, os, bare, un, hok2, rv, rfl⟩ := h
      obtain rfl : u = Value.bool true := rv
      refine ⟨rfl, OldK.of_keep fun b o e => ?_, os, bare⟩
      rcases only b with z | ⟨ob, xs, z⟩
      · exact un.keep b o e z (fun m => nomatch (show b ∈ ([] : List Addr) from m)) (fun m => nomatch m)
      · have e1 := (hok b _ z).1
        have e2 := (hok2 b _ (un.frzs b ob _ z)).1
        rw [e] at e1
        cases e1
        exact e2
  cases own : K.lookup a with
  | some o =>
    have e := inK a o own
    rw [sc] at e
    cases e
    exact main (fun _ => none) (fun _ => .inl rfl) (.inr ⟨_, us.toArray, _, own, rfl, rfl, rfl, by rw [List.size_toArray, hin.length]; exact short, by simpa using rel⟩) (fun b u z => nomatch z) (fun b u z => nomatch z)
  | none =>
    refine main (fun b => if b = a then some (.frz { cls := .type "list", data := .seq us.toArray } (.lst (ns.map V.int))) else none) (fun b => ?_) (.inl (.inr ⟨{ cls := .type "list", data := .seq us.toArray }, if_pos rfl⟩)) (fun b u z => ?_) (fun b u z => ?_)
    · by_cases e : b = a
      · exact .inr ⟨_, _, if_pos e⟩
      · exact .inl (if_neg e)
    · by_cases e : b = a
      · have z2 := (if_pos e).symm.trans z
        cases z2
        subst e
        exact ⟨sc, by rw [List.length_map]; exact short, us, _, rel, sc⟩
      · exact nomatch ((if_neg e).symm.trans z)
    · by_cases e : b = a
      · exact ⟨e, own⟩
      · exact nomatch ((if_neg e).symm.trans z)
theorem walk_G {l : PySem.W.OpenLaw} {n k : Nat} {q : Program} {loose : List Str} {XP : (Str → Option Value) → Heap → Prop} {YP : World → Heap → Prop} {d : DefRec} {K : Params → PySem.W.Frag} {sp : World → Sp} {x : Str}
    (most : l.most = some n) (n2 : n ≤ sizeLine) (nd : d.params.defaults = []) (room : Room k callerA) (hY : ∀ (w : World) (h : Heap), YP w h → (K w.params).In h)
    (F : ∀ (w : World) (mg : Str → Option Value) (fa : Addr) (h : Heap), (K w.params).In h → h.Ns mainGlobals mg → mg d.name = some (.ref fa) →
      ∃ fd : FuncData, (∀ (s : Shared) (u : Value), BindsTo s fd ⟨[u], []⟩ [(x, u)]) ∧ ∀ base : Heap, (K w.params).In base → base.Ns mainGlobals mg → FnG l.prog w (K w.params) mg base k fa fd [x] (sp w))
    (hsp : ∀ (w : World) (H : Hp) (a : Addr) (ns : List Int), ns.length ≤ n → Only H → SqL (K w.params) H a (ns.map V.int) → sp w [.ref a] H (fun v _ => v = .bl true) E0) :
    PySem.W.WalkO q loose XP YP l.row.toRowW d [] (fun f vs => PySem.call f vs) := by
  refine Att.attach_call most nd fun w sA sB mg mb fa o pm cd doc a us ns G Y ho hd hcd hmg hobj hints hlen hg => ?_
  obtain ⟨fd, hb, hF⟩ := F w mg fa _ (hY w _ Y) G.T.g hmg
  exact lawG (hY w _ Y) G.T.g G.T.b G.T.builtins G.T.nolimit hg hobj hints (Nat.le_trans hlen n2) room hF hb fun H only seq => hsp w H a ns hlen only seq
end Rt
namespace Rt
open PySem PySem.Spec PyProof.Rows L2
theorem at_new {H H' : Hp} {p : Addr} {o : HO} (e : H' = upd H p o) : H' p = some o := by
  rw [e]
  exact upd_same
theorem SqT.frz {K : PySem.W.Frag} {H : Hp} {a : Addr} {o : Obj} {xs : List V} (h : H a = some (.frz o (.tup xs))) : SqT K H a xs := .inl (.inr ⟨o, h⟩)
section
variable {X : Cx}
/-- tuple(list), its object known -/
def rTupF (K : PySem.W.Frag) : List V → Hp → VK → Prop := fun xs H Q => ∃ p ys, xs = [.ref p] ∧ SqL K H p ys ∧ ∀ l o H', H l = none → o.dict = none → H' = upd H l (.frz o (.tup ys)) → Q (.ref l) H'
theorem call_tupF : CallR X (.type "tuple") (rTupF X.K) := by
  intro pn s σ H xs us Q I r h
  obtain ⟨p, ys, rfl, hq, q⟩ := h
  obtain ⟨u, rfl, rx⟩ := vals1 r
  cases rx
  obtain ⟨its, r', pl, hz⟩ := I.list hq
  have hln := r'.length
  refine call_tuple_list pl.isList (fun h2 kp => ?_) (by simp only [List.size_toArray] <;> omega)
  have J : Inv X pn σ H { s with heap := h2 } := I.kept (t' := s.toks) kp
  have J2 : Inv X pn σ (upd H h2.objs.size (.frz { cls := .type "tuple", data := .seq its.toArray } (.tup ys))) { s with heap := h2.push { cls := .type "tuple", data := .seq its.toArray } } :=
    J.laid (t' := s.toks) (fun b o e => Heap.get?_push_of_some _ e) (Nat.le_refl _) (show ObjOk X.prog X.w _ _ _ (.frz { cls := .type "tuple", data := .seq its.toArray } (.tup ys)) from ⟨Heap.get?_push_size _ rfl, hz, its, r', IsTup.new _ _⟩)
  exact ⟨.ref h2.objs.size, _, J2, rfl, q _ _ _ (J.hok.fresh (Nat.le_refl _)) rfl rfl⟩
/-- t.index(z) of such a tuple of texts -/
def tIdxF (K : PySem.W.Frag) (to : TE) (t : TA) : TE := fun σ H Q => to σ H fun x H1 => ∃ p o, ∃ ys : List Str, x = .ref p ∧ H1 p = some (.frz o (.tup (ys.map V.str))) ∧ o.dict = none ∧ t σ H1 fun xs H2 => ∃ z j, xs = [.str z] ∧ SqT K H2 p (ys.map V.str) ∧ ys[j]? = some z ∧ (∀ m, m < j → ys[m]? ≠ some z) ∧ Q (.int (j : Nat)) H2
theorem pe_idxF {ob e : Expr} {to : TE} {t : TA} {apos cpos : Pos} (ho : PE X ob to) (ha : PA X [e] t)
    (hbase : attributeBase ob "index" X.env (eval ob X.env) = eval ob X.env := by rfl)
    (hfew : ((backTo cpos (starEach [e] X.env)).all (fun x => !x.1) && (backToKw cpos (keywordEach [] X.env)).all (fun x => x.1.isSome) && decide (([e] : List Expr).length + ([] : List Keyword).length + (if ([] : List Keyword).isEmpty then 0 else 1) < 30)) = true := by rfl)
    (hline : (apos.endLine == cpos.line) = true := by rfl) (hs : starEach [e] X.env = (false, eval e X.env) :: starEach [] X.env := by rfl) (hplain : (backTo cpos (starEach [] X.env)).any (·.1) = false := by rfl) :
    PE X (.Call (.Attribute ob "index" apos) [e] [] cpos) (tIdxF X.K to t) := by
  refine ⟨fun pn s σ H Q I h => wpAny_Call_method_late hbase hfew hline rfl (thn (ho.run pn s σ H _ I h) fun v s1 done => ?_)⟩
  obtain ⟨x, H1, I1, r1, p, o, ys, rfl, hp, hd, q1⟩ := done
  obtain ⟨he, _, its, _, hT⟩ := I1.hok p _ hp
  have ev : v = Value.ref p := by cases r1; rfl
  refine ⟨"tuple", "tuple.index", PySem.F.plainAttrs_tuple, PySem.F.slot_tuple_index, PySem.F.type_tuple_index, by rw [ev]; exact hT.typeIs, fun a z => ?_, ?_⟩
  · rw [ev] at z
    cases z
    exact ⟨o, he, hd⟩
  have hA := ha.run cpos pn s1 σ H1 _ I1 q1
  rw [hs] at hA ⊢
  refine Calls.callWith_builtin (by show (false || (backTo cpos (starEach [] X.env)).any (·.1)) = false; rw [hplain] <;> rfl) (Calls.evalArgs_plain (thn hA fun us s2 more => ?_))
  obtain ⟨vs, H2, I2, r2, z, j, e1, e2, e3, e4, q2⟩ := more
  exact mt_tup_index pn s2 σ H2 (.ref p) vs v us Q I2 r1 r2 ⟨p, ys, z, j, rfl, e1, e2, e3, e4, q2⟩
end
end Rt
namespace Rt
open PySem PySem.Spec PyProof.Rows L2
/-! ### enumerate(tuple) -/
theorem new_enum {v : Value} {o : Obj} {Hq : Heap → Prop} (B : Begins v o Hq) :
    Meets (Builtin.«enumerate.__new__» ⟨[.type "enumerate", v], []⟩) (fun _ R s => Hq s.heap ∧
      R (.ok (.ret (.ref (s.heap.push o).objs.size))) { s with heap := (s.heap.push o).push { cls := .type "enumerate", data := .fields #[.none, .bool false, .ref s.heap.objs.size, rawInt 0, .none, .none] } }) :=
  .of_wp fun prog w A R s h => by
    obtain ⟨hp, gn, dr, tk, os⟩ := s; obtain ⟨hq, h⟩ := h
    have sub := sub_enumerate
    have it : ∀ {A2 : Around} {E : Value → Shared → Prop} {Q : Value → Shared → Prop}, Q (.ref hp.objs.size) ⟨hp.push o, gn, dr, tk, os⟩ → wpAny (model prog w) A2 (pyIter v) Q E ⟨hp, gn, dr, tk, os⟩ :=
      fun q => B.iter prog w _ _ ⟨hp, gn, dr, tk, os⟩ _ hq q
    wp_walk using it
    refine wpAny_stack_any fun st => wpAny_pure ?_
    split
    · rename_i c _ _ _ _ _
      cases (c == Value.type "enumerate")
      all_goals (wp_walk using it; exact ⟨_, rfl, h⟩)
    · wp_walk using it
      exact ⟨_, rfl, h⟩
section
variable {prog : Program} {w : World} {A : Around} {E : Value → Shared → Prop} {s : Shared}
theorem call_enum {v : Value} {o : Obj} {Hq : Heap → Prop} {Q : Value → Shared → Prop} (B : Begins v o Hq) (hq : Hq s.heap)
    (h : ∀ h2, IsEnum h2 (s.heap.objs.size + 1) s.heap.objs.size 0 .none → h2.get? s.heap.objs.size = some o → (∀ b ob, s.heap.get? b = some ob → h2.get? b = some ob) → Q (.ref (s.heap.objs.size + 1)) { s with heap := h2 }) :
    wpAny (model prog w) A (call (.type "enumerate") [v]) Q E s := by
  refine callType_new F.called_enumerate (by decide) (F.typeCall_enumerate_1 _) (F.newCall_enumerate_1 _) (fun obj => F.args_object_init_2 obj _) F.entry_enumerate_new (new_enum B) ⟨hq, ?_⟩
  have sz1 : (s.heap.push o).objs.size = s.heap.objs.size + 1 := Heap.size_push ..
  have en : IsEnum ((s.heap.push o).push { cls := .type "enumerate", data := .fields #[.none, .bool false, .ref s.heap.objs.size, rawInt 0, .none, .none] }) (s.heap.objs.size + 1) s.heap.objs.size 0 .none := by
    have z := Heap.get?_push_size (s.heap.push o) (o := { cls := .type "enumerate", data := .fields #[.none, .bool false, .ref s.heap.objs.size, rawInt 0, .none, .none] }) rfl
    rwa [sz1] at z
  show _ ∧ _
  rw [sz1]
  exact ⟨⟨_, en, rfl⟩, h _ en (Heap.get?_push_of_some _ (Heap.get?_push_size _ B.free)) fun b ob z => Heap.get?_push_of_some _ (Heap.get?_push_of_some _ z)⟩
end
/-- the tuple at a as it stands at each turn, each item in a new pair -/
def IteT (K : PySem.W.Frag) (a : Addr) : It :=
  ⟨fun i H => ∃ (xs : List V) (x : V), SqT K H a xs ∧ xs[i]? = some x, fun i H v H' => ∃ T x, v = .ref T ∧ H T = none ∧ H' = upd H T (.tup [.int (i : Nat), x]) ∧ ∀ xs, SqT K H a xs → xs[i]? = some x, fun i H => ∃ xs : List V, SqT K H a xs ∧ xs.length = i⟩
theorem turn_enumT {P : Program} {w : World} {K : PySem.W.Frag} {elts : List Expr} {kk : Nat} {tpos : Pos} (a e it : Addr) :
    Turn P w K (.Tuple elts kk tpos) (IteT K a) [e, it] e (fun i h => (∃ old, IsEnum h e it ((i : Nat) : Int) old) ∧ h.IsTupleIter it a i ∧ e ≠ it ∧ a ≠ it ∧ a ≠ e) where
  mem := by simp
  obj := by
    rintro i h ⟨⟨old, he⟩, ⟨o, ho, hc, hd⟩, _⟩ b hb
    rcases (by simpa using hb : b = e ∨ b = it) with rfl | rfl
    · exact ⟨_, he, fun v q => nomatch q⟩
    · exact ⟨o, ho, fun v q => by rw [hd] at q; cases q⟩
  keep := by
    rintro i h h2 ⟨⟨old, he⟩, hi, ne⟩ k
    exact ⟨⟨old, k e (by simp) _ he⟩, hi.at fun o q => k it (by simp) o q, ne⟩
  item := by
    intro X hP hw hK hc i pn s σ H E I hf st hg
    subst hP hw hK
    obtain ⟨⟨old, he⟩, hit, ne, nai, nae⟩ := st
    obtain ⟨xs, x, hq, hx⟩ := hg
    obtain ⟨its, rv, tp, hz⟩ := I.tuple hq
    obtain ⟨u, hu, ru⟩ := rv.get hx
    have hel : e < s.heap.objs.size := Heap.lt_size he
    have hil : it < s.heap.objs.size := by obtain ⟨_, q, _⟩ := hit; exact Heap.lt_size q
    have hlt : i < its.toArray.size := by simpa using (List.getElem?_eq_some_iff.mp hu).1
    refine wpAny_pyNext_enum_itemD (Draws.tuple (A := X.A.in1) (I.ok.hd hc) it a nai its.toArray) he ⟨hit, tp⟩ hlt ne (by simp [ne, Ne.symm nae]) fun y h2 tk hy ho hst hT hsz hk => ?_
    have eu : y = u := by
      have : its.toArray[i]? = some u := by simpa using hu
      rw [this] at hy
      exact (Option.some.inj hy).symm
    subst eu
    refine ⟨_, rfl, wpAny_letOwnedTupleGo_enum (s := { s with heap := h2, toks := tk + 1 }) ho fun h3 he3 sb => ?_⟩
    have hT3 : h3.get? s.heap.objs.size = some { cls := .type "tuple", data := .seq #[.int i tk, y] } := (sb.2 _ (Nat.ne_of_gt hel)).trans hT
    have fresh : ObjOk X.prog X.w (upd H s.heap.objs.size (.tup [.int (i : Nat), x])) h3 s.heap.objs.size (.tup [.int (i : Nat), x]) :=
      ⟨sz (n := 2) (by decide), [.int i tk, y], .cons ⟨_, rfl⟩ (.cons ru .nil), ⟨_, hT3, rfl, _, rfl⟩⟩
    have J : Inv X pn σ (upd H s.heap.objs.size (.tup [.int (i : Nat), x])) { s with heap := h3, toks := tk + 1 } :=
      I.turnedNew (ch := [e, it]) (fun b ob hb q => (sb.2 b (fun z => hb (by simp [z]))).trans (hk b ob (fun z => hb (by simp [z])) (fun z => hb (by simp [z])) q)) hf (Nat.le_refl _) fresh
    have ci : ((i + 1 : Nat) : Int) = (i : Int) + 1 := by omega
    refine ⟨.ref s.heap.objs.size, _, J, rfl, ⟨_, x, rfl, I.hok.fresh (Nat.le_refl _), rfl, fun ys hy2 => by rw [I.tuple_inj hy2 hq]; exact hx⟩, ⟨⟨y, by rw [ci]; exact he3⟩, hst.1.at fun o q => (sb.2 it (Ne.symm ne)).trans q, ne, nai, nae⟩, fun b hb => ?_⟩
    have lt : b < s.heap.objs.size := by
      rcases (by simpa using hb : b = e ∨ b = it) with rfl | rfl
      · exact hel
      · exact hil
    rw [upd_ne (Nat.ne_of_lt lt)]
    exact (hf b hb).1
  done := by
    intro X hP hw hK hc i pn s σ H E I hf st hg
    subst hP hw hK
    obtain ⟨⟨old, he⟩, hit, ne, nai, nae⟩ := st
    obtain ⟨xs, hq, hx⟩ := hg
    obtain ⟨its, rv, tp, hz⟩ := I.tuple hq
    obtain ⟨f0, f1, f2, f3, f4, f5⟩ := hf it (by simp)
    have en : i = its.toArray.size := by rw [List.size_toArray, ← rv.length, hx]
    exact wpAny_pyNext_enum_endD (Draws.tuple (A := X.A.in1) (I.ok.hd hc) it a nai its.toArray) he ⟨by rw [← en]; exact hit, tp⟩ fun h2 eb => ⟨rfl, I.turned (t' := s.toks) (fun b o hb q => eb b o hb q) f0 f1 f3 f4 f5⟩
  self := by
    rintro A i s Q E ⟨⟨_, he⟩, _⟩ h
    exact wpAny_pyIter_enum he h
def iEnumT (K : PySem.W.Frag) (ta : TA) : TI := fun σ H R => ta σ H fun vs H1 => ∃ a xs, vs = [.ref a] ∧ SqT K H1 a xs ∧ R (IteT K a) H1
theorem pi_enumT {X : Cx} {e : Expr} {ta : TA} {p pos tpos : Pos} {elts : List Expr} {kk : Nat} (hg : Gl X "enumerate") (hm : X.mg "enumerate" = none) (ha : PA X [e] ta) (hs : starEach [e] X.env = [(false, eval e X.env)] := by rfl) :
    PI X (.Tuple elts kk tpos) (.Call (.Name "enumerate" p) [e] [] pos) (iEnumT X.K ta) := by
  refine ⟨fun pn s σ H R I h => Call_ (ld_blt I hg hm boot_enumerate (PyProof.Rows.callWith_type1 (thn (ha.run pos pn s σ H _ I h) fun us s1 done => ?_) hs rfl))⟩
  obtain ⟨vs, H1, J, r1, a, xs, rfl, hq, q⟩ := done
  obtain ⟨u, rfl, rx⟩ := vals1 r1
  cases rx
  obtain ⟨its, rv, tp, hz⟩ := J.tuple hq
  have hal : a < s1.heap.objs.size := by obtain ⟨_, z, _⟩ := tp; exact Heap.lt_size z
  refine call_enum (begins_tuple a its.toArray) tp fun h2 he hit hk => wpAny_pyIter_enum he ?_
  refine ⟨s1.heap.objs.size + 1, [s1.heap.objs.size + 1, s1.heap.objs.size], _, _, H1, rfl, J.kept (t' := s1.toks) hk, turn_enumT a (s1.heap.objs.size + 1) s1.heap.objs.size, ⟨⟨.none, he⟩, ⟨_, hit, rfl, rfl⟩, Nat.succ_ne_self _, Nat.ne_of_lt hal, Nat.ne_of_lt (Nat.lt_succ_of_lt hal)⟩, fun b hb => ?_, q⟩
  have le : s1.heap.objs.size ≤ b := by
    rcases (by simpa using hb : b = s1.heap.objs.size + 1 ∨ b = s1.heap.objs.size) with rfl | rfl
    · exact Nat.le_succ _
    · exact Nat.le_refl _
  exact J.fpOk le (J.hok.fresh le)
theorem walk_enumT {K : PySem.W.Frag} {a : Addr} {xs : List V} : Walk (IteT K a) xs.length (fun H => SqT K H a xs) (YPair (fun i => some (.int (i : Nat))) (fun i => xs[i]?)) := by
  refine ⟨fun i H hi z => ⟨xs, xs[i], z, by simp [hi]⟩, fun H z => ⟨xs, z, rfl⟩, fun i H v H' hi z y => ?_⟩
  obtain ⟨T, x, h1, h2, h3, h4⟩ := y
  exact ⟨T, .int (i : Nat), x, h1, h2, h3, rfl, h4 xs z⟩
end Rt
namespace Rt
open PySem PySem.Spec PyProof.Rows L2
/-! ### tuple * 1 -/
theorem tuple_mul1 (l : Addr) (items : Array Value) (n : Nat) (dd : Option Addr) (sl : Array (Option Value)) (u : Tok) (c1 : (items.isEmpty || (1 : Int) == 1) = true) :
    Meets (Builtin.«tuple.__mul__» ⟨[.ref l, .int 1 u], []⟩) (fun _ R s => s.heap.get? l = some { cls := .type "tuple", dict := dd, data := .seq items n, slots := sl } ∧
      R (.ok (.ret (Value.ref l))) s) :=
  .of_wp fun prog w A R s h => by
    obtain ⟨hp, g, d, tk, os⟩ := s
    obtain ⟨hl, h⟩ := h
    have f1 := AutoSeq1.idx_int
    have c0 : (decide ((1 : Int) < -(2 ^ 63)) || decide ((1 : Int) ≥ 2 ^ 63)) = false := by decide
    wp_walk using wpAny_loadPart' hl
    repeat (first
      | (refine wpAny_ite_false (decide_eq_false (by rw [c0]; exact Bool.false_ne_true)) ?_; wp_walk using wpAny_loadPart' hl)
      | (refine wpAny_ite_true (decide_eq_true c1) ?_; wp_walk using wpAny_loadPart' hl))
    exact ⟨_, rfl, h⟩
theorem smN {H : Hp} {p : Addr} {o : HO} (h : H p = none) : Same H (upd H p o) := fun b x e => by
  rw [upd_ne (ne_of_none e h)]
  exact e
section
variable {X : Cx}
/-- t * k -/
def rRepS1 : R2 := fun x y H Q => ∃ l k xs, x = .ref l ∧ y = .int k ∧ H l = some (.tup xs) ∧ xs ≠ [] ∧ 1 ≤ k ∧ k ≤ 1000 ∧ xs.length ≤ 1000 ∧ ∀ p H', Same H H' → H' p = some (.tup (List.replicate k.toNat xs).flatten) → Q (.ref p) H'
theorem op_repS1 : OpR X (binaryOp .Mult) rRepS1 := by
  intro pins s σ H x y v u Q I rx ry h
  obtain ⟨l, k, xs, rfl, rfl, hT, hne, h1, h2, hz, q⟩ := h
  by_cases e : k = 1
  · subst e
    cases rx
    obtain ⟨t, rfl⟩ := ry
    obtain ⟨its, r, ⟨⟨cls, dd, data, sl⟩, ho, hc, n, hd⟩, hs⟩ := I.tuple (SqT.of hT)
    simp only at hc hd
    subst hc hd
    refine wpAny_binaryOp_repeat_ref (T := "tuple") (U := "int") (by decide) ⟨_, ho, rfl⟩ (fun s' => typeIs_int s' 1 t) noFill_tuple_mul F.fills_int_mul F.slot_int_rmul repeat_tuple F.slot_int_index.lookup
      (call_meets F.slot_int_rmul (typeIs_int s 1 t) F.entry_int_rmul (F.args_int_rmul_2 _ _) (int_rmul_tuple 1 t l its.toArray n dd sl)
        ⟨ho, rfl, ⟨_, ho, rfl⟩, call_meets F.slot_tuple_mul ⟨_, ho, rfl⟩ F.entry_tuple_mul (F.args_tuple_mul_2 _ _) (tuple_mul1 l its.toArray n dd sl t (by simp)) ⟨ho, ?_⟩⟩)
    refine ⟨.ref l, H, I, rfl, q l H (Same.refl H) ?_⟩
    rw [hT]
    simp
  · exact op_repT pins s σ H _ _ v u Q I rx ry ⟨l, k, xs, rfl, rfl, SqT.of hT, hne, by omega, h2, hz, fun p np => q p _ (smN np) upd_same⟩
/-- t + u -/
def rCatS : R2 := fun x y H Q => ∃ a b xs ys, x = .ref a ∧ y = .ref b ∧ H a = some (.tup xs) ∧ H b = some (.tup ys) ∧ xs.length + ys.length ≤ 1000 ∧ ∀ p H', Same H H' → H' p = some (.tup (xs ++ ys)) → Q (.ref p) H'
theorem op_catS : OpR X (binaryOp .Add) rCatS := by
  intro pins s σ H x y v u Q I rx ry h
  obtain ⟨a, b, xs, ys, rfl, rfl, ha, hb, hz, q⟩ := h
  refine op_catA pins s σ H _ _ v u Q I rx ry ⟨a, b, xs, ys, rfl, rfl, SqT.of ha, SqT.of hb, sz (by omega), fun e => q b H (Same.refl H) ?_, fun _ e => q a H (Same.refl H) ?_, fun _ _ p np => q p _ (smN np) upd_same⟩
  · rw [hb, e]; rfl
  · rw [ha, e, List.append_nil]
/-- t[lo:hi] -/
def rSlS : V → Option Int → Option Int → Hp → VK → Prop := fun x lo hi H Q => ∃ a xs, x = .ref a ∧ H a = some (.tup xs) ∧ ∀ p H', Same H H' → H' p = some (.tup (cutV xs lo hi)) → Q (.ref p) H'
theorem sl_tupS : SlR X rSlS := by
  intro pins s σ H x v vl vu lo hi sl Q I rx hs pl pu h
  obtain ⟨a, xs, rfl, ha, q⟩ := h
  refine sl_tupA pins s σ H _ v vl vu lo hi sl Q I rx hs pl pu ⟨a, xs, rfl, SqT.of ha, fun hw => q a H (Same.refl H) ?_, fun _ p np => q p _ (smN np) upd_same⟩
  rw [ha]
  unfold cutV
  rw [hw.1, hw.2, List.drop_zero, Nat.sub_zero, List.take_length]
end
theorem cut_lo {xs : List V} {m : Nat} (h : m ≤ xs.length) : cutV xs none (some (m : Int)) = xs.take m := by
  unfold cutV
  rw [HT.sIx_none, HT.sIx_nat, List.drop_zero, Nat.sub_zero, Nat.min_eq_left h]
theorem cut_hi {xs : List V} {m : Nat} (h : m ≤ xs.length) : cutV xs (some (m : Int)) none = xs.drop m := by
  unfold cutV
  rw [HT.sIx_none, HT.sIx_nat, Nat.min_eq_left h, List.take_of_length_le (by rw [List.length_drop]; omega)]
theorem set_cut {xs : List V} {m : Nat} {v : V} (h : m < xs.length) : xs.take m ++ [v] ++ xs.drop (m + 1) = xs.set m v := by
  rw [List.set_eq_take_append_cons_drop, if_pos h, List.append_assoc]
  rfl
end Rt
namespace Dl
open PySem PySem.Spec PyProof.Rows L2 Rt
abbrev D := PyData
/-! ### data at values -/
def TupF (H : Hp) (a : Addr) (xs : List V) : Prop := ∃ o : Obj, H a = some (.frz o (.tup xs)) ∧ o.dict = none
mutual
inductive Rp (M : Addr → Prop) (H : Hp) : V → D → Prop
  | non : Rp M H .non .none
  | bl (b : Bool) : Rp M H (.bl b) (.bool b)
  | int (i : Int) : Rp M H (.int i) (.int i)
  | str (x : Str) (h : x.length ≤ sizeLine) : Rp M H (.str x) (.str x)
  | tup {a : Addr} {xs : List V} {ds : List D} : TupF H a xs → ¬ M a → xs.length ≤ sizeLine → RpAll M H xs ds → Rp M H (.ref a) (.tuple ds)
  | lst {a : Addr} {xs : List V} {ds : List D} : H a = some (.lst xs) → ¬ M a → xs.length ≤ sizeLine → RpAll M H xs ds → Rp M H (.ref a) (.list ds)
  | dic {a : Addr} : H a = some (.dK []) → ¬ M a → Rp M H (.ref a) (.dict [])
inductive RpAll (M : Addr → Prop) (H : Hp) : List V → List D → Prop
  | nil : RpAll M H [] []
  | cons {v : V} {vs : List V} {d : D} {ds : List D} : Rp M H v d → RpAll M H vs ds → RpAll M H (v :: vs) (d :: ds)
end
def KpM (M : Addr → Prop) (H H' : Hp) : Prop := ∀ p o, ¬ M p → H p = some o → H' p = some o
theorem KpM.of {M : Addr → Prop} {H H' : Hp} (s : Same H H') : KpM M H H' := fun p o _ e => s p o e
theorem KpM.refl {M : Addr → Prop} {H : Hp} : KpM M H H := fun p o _ e => e
def Dom (M : Addr → Prop) (H : Hp) : Prop := ∀ p, M p → H p ≠ none
theorem Dom.mono {M : Addr → Prop} {H H' : Hp} (d : Dom M H) (s : Same H H') : Dom M H' := fun p m e => by
  cases z : H p with
  | none => exact d p m z
  | some o => rw [s p o z] at e; cases e
theorem Dom.not {M : Addr → Prop} {H : Hp} {p : Addr} (d : Dom M H) (e : H p = none) : ¬ M p := fun m => d p m e
mutual
theorem Rp.mono {M : Addr → Prop} {H H' : Hp} (k : KpM M H H') : ∀ {v : V} {d : D}, Rp M H v d → Rp M H' v d
  | _, _, .non => .non
  | _, _, .bl b => .bl b
  | _, _, .int i => .int i
  | _, _, .str x h => .str x h
  | _, _, .tup ⟨o, e, z⟩ n l h => .tup ⟨o, k _ _ n e, z⟩ n l (RpAll.mono k h)
  | _, _, .lst e n l h => .lst (k _ _ n e) n l (RpAll.mono k h)
  | _, _, .dic e n => .dic (k _ _ n e) n
theorem RpAll.mono {M : Addr → Prop} {H H' : Hp} (k : KpM M H H') : ∀ {vs : List V} {ds : List D}, RpAll M H vs ds → RpAll M H' vs ds
  | _, _, .nil => .nil
  | _, _, .cons h t => .cons (Rp.mono k h) (RpAll.mono k t)
end
mutual
theorem Rp.reM {M M' : Addr → Prop} {H : Hp} (k : ∀ a, M' a → M a ∨ H a = none) : ∀ {v : V} {d : D}, Rp M H v d → Rp M' H v d
  | _, _, .non => .non
  | _, _, .bl b => .bl b
  | _, _, .int i => .int i
  | _, _, .str x h => .str x h
  | _, _, .tup ⟨o, e, z⟩ n l h => .tup ⟨o, e, z⟩ (fun m => (k _ m).elim n (fun q => by rw [q] at e; cases e)) l (RpAll.reM k h)
  | _, _, .lst e n l h => .lst e (fun m => (k _ m).elim n (fun q => by rw [q] at e; cases e)) l (RpAll.reM k h)
  | _, _, .dic e n => .dic e (fun m => (k _ m).elim n (fun q => by rw [q] at e; cases e))
theorem RpAll.reM {M M' : Addr → Prop} {H : Hp} (k : ∀ a, M' a → M a ∨ H a = none) : ∀ {vs : List V} {ds : List D}, RpAll M H vs ds → RpAll M' H vs ds
  | _, _, .nil => .nil
  | _, _, .cons h t => .cons (Rp.reM k h) (RpAll.reM k t)
end
theorem TupF.sq {K : PySem.W.Frag} {H : Hp} {a : Addr} {xs : List V} (h : TupF H a xs) : SqT K H a xs := by
  obtain ⟨o, e, _⟩ := h
  exact .inl (.inr ⟨o, e⟩)
mutual
theorem Rp.dp {K : PySem.W.Frag} {M : Addr → Prop} {H : Hp} : ∀ {v : V} {d : D}, Rp M H v d → d.hasDict = false → Dp K H v d
  | _, _, .non, _ => .non
  | _, _, .bl b, _ => .bl b
  | _, _, .int i, _ => .int i
  | _, _, .str x h, _ => .str x
  | _, _, .tup t n l h, e => .tup t.sq (RpAll.dp h e)
  | _, _, .lst t n l h, e => .lst (SqL.of t) (RpAll.dp h e)
  | _, _, .dic t n, e => nomatch e
theorem RpAll.dp {K : PySem.W.Frag} {M : Addr → Prop} {H : Hp} : ∀ {vs : List V} {ds : List D}, RpAll M H vs ds → PyData.hasDictAll ds = false → DpAll K H vs ds
  | _, _, .nil, _ => .nil
  | _, _, .cons h t, e => by
    have e2 := Bool.or_eq_false_iff.mp e
    exact .cons (Rp.dp h e2.1) (RpAll.dp t e2.2)
end
theorem RpAll.len {M : Addr → Prop} {H : Hp} : ∀ {vs : List V} {ds : List D}, RpAll M H vs ds → vs.length = ds.length
  | _, _, .nil => rfl
  | _, _, .cons _ t => congrArg (· + 1) t.len
theorem RpAll.get {M : Addr → Prop} {H : Hp} : ∀ {vs : List V} {ds : List D} {i : Nat} {d : D}, RpAll M H vs ds → ds[i]? = some d → ∃ v, vs[i]? = some v ∧ Rp M H v d
  | _, _, _, _, .nil, e => nomatch e
  | _, _, 0, _, .cons h t, e => by cases e; exact ⟨_, rfl, h⟩
  | _, _, i + 1, _, .cons h t, e => t.get (i := i) e
theorem RpAll.getV {M : Addr → Prop} {H : Hp} : ∀ {vs : List V} {ds : List D} {i : Nat} {v : V}, RpAll M H vs ds → vs[i]? = some v → ∃ d, ds[i]? = some d ∧ Rp M H v d
  | _, _, _, _, .nil, e => nomatch e
  | _, _, 0, _, .cons h t, e => by cases e; exact ⟨_, rfl, h⟩
  | _, _, i + 1, _, .cons h t, e => t.getV (i := i) e
theorem RpAll.app {M : Addr → Prop} {H : Hp} : ∀ {vs ws : List V} {ds es : List D}, RpAll M H vs ds → RpAll M H ws es → RpAll M H (vs ++ ws) (ds ++ es)
  | _, _, _, _, .nil, b => b
  | _, _, _, _, .cons h t, b => .cons h (t.app b)
theorem RpAll.drop {M : Addr → Prop} {H : Hp} : ∀ {vs : List V} {ds : List D} (n : Nat), RpAll M H vs ds → RpAll M H (vs.drop n) (ds.drop n)
  | _, _, 0, h => h
  | _, _, n + 1, .nil => .nil
  | _, _, n + 1, .cons h t => t.drop n
theorem RpAll.take {M : Addr → Prop} {H : Hp} : ∀ {vs : List V} {ds : List D} (n : Nat), RpAll M H vs ds → RpAll M H (vs.take n) (ds.take n)
  | _, _, 0, h => .nil
  | _, _, n + 1, .nil => .nil
  | _, _, n + 1, .cons h t => .cons h (t.take n)
theorem RpAll.set {M : Addr → Prop} {H : Hp} {v : V} {d : D} (h : Rp M H v d) : ∀ {vs : List V} {ds : List D} (n : Nat), RpAll M H vs ds → RpAll M H (vs.set n v) (ds.set n d)
  | _, _, n, .nil => .nil
  | _, _, 0, .cons _ t => .cons h t
  | _, _, n + 1, .cons g t => .cons g (RpAll.set h n t)
/-! ### the slots -/
inductive LV
  | dat (d : D)
  | own (ds : List D)
  | raw (v : V)
  | pool
abbrev Rho := List (Option LV)
/-- what may not be part of data: the caller's own lists, and the def's -/
def Mu (μ : Bool) (M0 : Addr → Prop) (σ : L2.St) (ρ : Rho) (p : Addr) : Prop := M0 p ∨ (μ = true ∧ ∃ (i : Nat) (ds : List D), ρ[i]? = some (some (.own ds)) ∧ σ[i]? = some (some (.ref p)))
structure Rs (M0 : Addr → Prop) (H0 H : Hp) (σ : L2.St) (ρ : Rho) : Prop where
  sm : Same H0 H
  dom : Dom M0 H0
  len : ρ.length = σ.length
  dat : ∀ (i : Nat) (d : D), ρ[i]? = some (some (.dat d)) → ∃ v, σ[i]? = some (some v) ∧ Rp (Mu true M0 σ ρ) H v d
  own : ∀ (i : Nat) (ds : List D), ρ[i]? = some (some (.own ds)) → ∃ p vs, σ[i]? = some (some (.ref p)) ∧ H p = some (.lst vs) ∧ H0 p = none ∧ vs.length ≤ sizeLine ∧ RpAll (Mu true M0 σ ρ) H vs ds
  raw : ∀ (i : Nat) (v : V), ρ[i]? = some (some (.raw v)) → σ[i]? = some (some v)
  inj : ∀ (i j : Nat) (a b : List D) (p : Addr), ρ[i]? = some (some (.own a)) → ρ[j]? = some (some (.own b)) → σ[i]? = some (some (.ref p)) → σ[j]? = some (some (.ref p)) → i = j
theorem Rs.mono {M0 : Addr → Prop} {H0 H H' : Hp} {σ : L2.St} {ρ : Rho} (R : Rs M0 H0 H σ ρ) (s : Same H H') : Rs M0 H0 H' σ ρ where
  sm := R.sm.trans s
  dom := R.dom
  len := R.len
  dat := fun i d e => by
    obtain ⟨v, a, b⟩ := R.dat i d e
    exact ⟨v, a, b.mono (.of s)⟩
  own := fun i ds e => by
    obtain ⟨p, vs, a, b, c, l, r⟩ := R.own i ds e
    exact ⟨p, vs, a, s _ _ b, c, l, r.mono (.of s)⟩
  raw := R.raw
  inj := R.inj
theorem Rs.domu {M0 : Addr → Prop} {H0 H : Hp} {σ : L2.St} {ρ : Rho} (R : Rs M0 H0 H σ ρ) (μ : Bool) : Dom (Mu μ M0 σ ρ) H := fun p m e => by
  rcases m with m | ⟨_, i, ds, e1, e2⟩
  · exact R.dom.mono R.sm p m e
  · obtain ⟨q, vs, a, b, _⟩ := R.own i ds e1
    rw [e2] at a
    cases a
    rw [b] at e
    cases e
theorem Mu.up {μ : Bool} {M0 : Addr → Prop} {σ : L2.St} {ρ : Rho} {H : Hp} : ∀ a, Mu μ M0 σ ρ a → Mu true M0 σ ρ a ∨ H a = none := fun a m => .inl (by
  rcases m with m | ⟨_, m⟩
  · exact .inl m
  · exact .inr ⟨rfl, m⟩)
theorem Mu.lo {μ : Bool} {M0 : Addr → Prop} {σ : L2.St} {ρ : Rho} {H : Hp} : ∀ a, M0 a → Mu μ M0 σ ρ a ∨ H a = none := fun a m => .inl (.inl m)
theorem Rp.toMu {μ : Bool} {M0 : Addr → Prop} {σ : L2.St} {ρ : Rho} {H : Hp} {v : V} {d : D} (h : Rp (Mu true M0 σ ρ) H v d) : Rp (Mu μ M0 σ ρ) H v d := h.reM Mu.up
theorem RpAll.toMu {μ : Bool} {M0 : Addr → Prop} {σ : L2.St} {ρ : Rho} {H : Hp} {v : List V} {d : List D} (h : RpAll (Mu true M0 σ ρ) H v d) : RpAll (Mu μ M0 σ ρ) H v d := h.reM Mu.up
theorem some_bind {α β : Type} {o : Option α} {f : α → Option β} {b : β} (h : o.bind f = some b) : ∃ a, o = some a ∧ f a = some b := by
  cases o with
  | none => cases h
  | some a => exact ⟨a, rfl, h⟩
mutual
def nl : D → Bool
  | .tuple ds => nlAll ds
  | .list _ => false
  | .dict _ => false
  | _ => true
def nlAll : List D → Bool
  | [] => true
  | d :: ds => nl d && nlAll ds
end
mutual
theorem Rp.nl {M M' : Addr → Prop} {H : Hp} : ∀ {v : V} {d : D}, Rp M H v d → Dl.nl d = true → (∀ a, M' a → M a ∨ ∃ xs, H a = some (.lst xs)) → Rp M' H v d
  | _, _, .non, _, _ => .non
  | _, _, .bl b, _, _ => .bl b
  | _, _, .int i, _, _ => .int i
  | _, _, .str x h, _, _ => .str x h
  | _, _, .tup ⟨o, e, z⟩ n l h, q, k => .tup ⟨o, e, z⟩ (fun m => (k _ m).elim n (fun ⟨xs, y⟩ => by rw [y] at e; cases e)) l (RpAll.nl h q k)
  | _, _, .lst e n l h, q, k => nomatch q
  | _, _, .dic e n, q, k => nomatch q
theorem RpAll.nl {M M' : Addr → Prop} {H : Hp} : ∀ {vs : List V} {ds : List D}, RpAll M H vs ds → nlAll ds = true → (∀ a, M' a → M a ∨ ∃ xs, H a = some (.lst xs)) → RpAll M' H vs ds
  | _, _, .nil, _, _ => .nil
  | _, _, .cons h t, q, k => by
    have q2 := Bool.and_eq_true_iff.mp q
    exact .cons (Rp.nl h q2.1 k) (RpAll.nl t q2.2 k)
end
/-! ### readings by data -/
abbrev EF := Rho → Option D
def tD (μ : Bool) (f : EF) : TE := fun σ H Q => ∃ M0 H0 ρ d, Rs M0 H0 H σ ρ ∧ f ρ = some d ∧ ∀ v H', Same H H' → Rp (Mu μ M0 σ ρ) H' v d → Q v H'
def tA (μ : Bool) (f : Rho → Option (List D)) : TA := fun σ H Q => ∃ M0 H0 ρ ds, Rs M0 H0 H σ ρ ∧ f ρ = some ds ∧ ∀ vs H', Same H H' → RpAll (Mu μ M0 σ ρ) H' vs ds → Q vs H'
def tT (f : Rho → Option Bool) : TT := fun σ H Q => ∃ M0 H0 ρ b, Rs M0 H0 H σ ρ ∧ f ρ = some b ∧ ∀ H', Same H H' → Q b H'
inductive Out
  | nx (ρ : Rho)
  | rt (d : D)
  | bk (ρ : Rho)
  | ct (ρ : Rho)
/-- a step: what is nobody's own stands, own lists are old ones or new -/
structure Stp (M0 : Addr → Prop) (σ : L2.St) (ρ : Rho) (H : Hp) (σ' : L2.St) (ρ' : Rho) (H' : Hp) : Prop where
  kp : KpM (Mu true M0 σ ρ) H H'
  ow : ∀ p, Mu true M0 σ' ρ' p → Mu true M0 σ ρ p ∨ H p = none
theorem Stp.refl {M0 : Addr → Prop} {σ : L2.St} {ρ : Rho} {H : Hp} : Stp M0 σ ρ H σ ρ H := ⟨.refl, fun p m => .inl m⟩
theorem Stp.trans {M0 : Addr → Prop} {σ σ1 σ2 : L2.St} {ρ ρ1 ρ2 : Rho} {H H1 H2 : Hp} (a : Stp M0 σ ρ H σ1 ρ1 H1) (b : Stp M0 σ1 ρ1 H1 σ2 ρ2 H2) : Stp M0 σ ρ H σ2 ρ2 H2 where
  kp := fun p o n e => b.kp p o (fun m => (a.ow p m).elim n (fun z => by rw [z] at e; cases e)) (a.kp p o n e)
  ow := fun p m => by
    rcases b.ow p m with m1 | z
    · exact a.ow p m1
    · by_cases h : Mu true M0 σ ρ p
      · exact .inl h
      · cases e : H p with
        | none => exact .inr rfl
        | some o => rw [a.kp p o h e] at z; cases z
def tS (f : Rho → Option Out) : TS := fun Dn σ H => ∃ M0 H0 ρ o, Rs M0 H0 H σ ρ ∧ f ρ = some o ∧ (match o with
  | .nx ρ' => ∀ σ' H', Rs M0 H0 H' σ' ρ' → Stp M0 σ ρ H σ' ρ' H' → Dn.nx σ' H'
  | .rt d => ∀ v H', Same H0 H' → Rp M0 H' v d → Dn.rt v H'
  | .bk ρ' => ∀ σ' H', Rs M0 H0 H' σ' ρ' → Stp M0 σ ρ H σ' ρ' H' → Dn.bk σ' H'
  | .ct ρ' => ∀ σ' H', Rs M0 H0 H' σ' ρ' → Stp M0 σ ρ H σ' ρ' H' → Dn.ct σ' H')
section
variable {X : Cx}
theorem _root_.L2.PE.wk {e : Expr} {t t' : TE} (h : PE X e t) (m : ∀ σ H Q, t' σ H Q → t σ H Q) : PE X e t' := ⟨fun pn s σ H Q I q => h.run pn s σ H Q I (m _ _ _ q)⟩
theorem _root_.L2.PT.wk {e : Expr} {t t' : TT} (h : PT X e t) (m : ∀ σ H Q, t' σ H Q → t σ H Q) : PT X e t' := ⟨fun pn s σ H Q I q => h.run pn s σ H Q I (m _ _ _ q)⟩
theorem _root_.L2.PW.wk {e : Expr} {t t' : TT} (h : PW X e t) (m : ∀ σ H Q, t' σ H Q → t σ H Q) : PW X e t' := ⟨fun wh pn s σ H Q I q => h.run wh pn s σ H Q I (m _ _ _ q)⟩
theorem _root_.L2.PI.wk {tg e : Expr} {t t' : TI} (h : PI X tg e t) (m : ∀ σ H Q, t' σ H Q → t σ H Q) : PI X tg e t' := ⟨fun pn s σ H Q I q => h.run pn s σ H Q I (m _ _ _ q)⟩
theorem _root_.L2.PS.wk {st : Stmt} {t t' : TS} (h : PS X st t) (m : ∀ D σ H, t' D σ H → t D σ H) : PS X st t' := ⟨fun pn s σ H Q I q => h.run pn s σ H Q I (m _ _ _ q)⟩
theorem _root_.L2.PSs.wk {st : List Stmt} {t t' : TS} (h : PSs X st t) (m : ∀ D σ H, t' D σ H → t D σ H) : PSs X st t' := ⟨fun pn s σ H Q I q => h.run pn s σ H Q I (m _ _ _ q)⟩
/-! names and constants -/
def eVar (i : Nat) : EF := fun ρ => match ρ[i]? with | some (some (.dat d)) => some d | _ => none
def eOwn (i : Nat) : EF := fun ρ => match ρ[i]? with | some (some (.own ds)) => some (.list ds) | _ => none
theorem dE_var {e : Expr} {i : Nat} {μ : Bool} (h : PE X e (tVar i)) : PE X e (tD μ (eVar i)) := h.wk fun σ H Q q => by
  obtain ⟨M0, H0, ρ, d, R, e, q⟩ := q
  unfold eVar at e
  split at e
  · rename_i d' z
    cases e
    obtain ⟨v, a, b⟩ := R.dat i _ z
    exact ⟨v, a, q v H (Same.refl _) b.toMu⟩
  · cases e
theorem dE_own {e : Expr} {i : Nat} (h : PE X e (tVar i)) : PE X e (tD false (eOwn i)) := h.wk fun σ H Q q => by
  obtain ⟨M0, H0, ρ, d, R, e, q⟩ := q
  unfold eOwn at e
  split at e
  · rename_i ds z
    cases e
    obtain ⟨p, vs, a, b, c, l, r⟩ := R.own i _ z
    refine ⟨.ref p, a, q _ H (Same.refl _) (.lst b (fun m => ?_) l r.toMu)⟩
    rcases m with m | ⟨m, _⟩
    · exact R.dom p m c
    · cases m
  · cases e
def eC (d : D) : EF := fun _ => some d
def cD : V → Option D
  | .non => some .none
  | .bl b => some (.bool b)
  | .int i => some (.int i)
  | .str x => if x.length ≤ sizeLine then some (.str x) else none
  | _ => none
theorem cD.rp {M : Addr → Prop} {H : Hp} {v : V} {d : D} (h : cD v = some d) : Rp M H v d := by
  cases v with
  | str x =>
    by_cases e : x.length ≤ sizeLine
    · have h : (if x.length ≤ sizeLine then some (PyData.str x) else none) = some d := h
      rw [if_pos e] at h
      cases h
      exact .str x e
    · have h : (if x.length ≤ sizeLine then some (PyData.str x) else none) = some d := h
      rw [if_neg e] at h
      cases h
  | _ => cases h <;> constructor
theorem dE_c {e : Expr} {v : V} {d : D} {μ : Bool} (h : PE X e (tC v)) (hd : cD v = some d := by rfl) : PE X e (tD μ (eC d)) := h.wk fun σ H Q q => by
  obtain ⟨M0, H0, ρ, d', R, e, q⟩ := q
  cases e
  exact q v H (Same.refl _) (cD.rp hd)
/-- a list of one's own may be left out of what is told, where no list is in it -/
def eStr (f : EF) : EF := fun ρ => (f ρ).bind fun d => if nl d = true then some d else none
theorem dE_str {e : Expr} {f : EF} (h : PE X e (tD false f)) : PE X e (tD true (eStr f)) := h.wk fun σ H Q q => by
  obtain ⟨M0, H0, ρ, d, R, e, q⟩ := q
  obtain ⟨d', z, e⟩ := some_bind e
  split at e
  · rename_i hnl
    cases e
    refine ⟨M0, H0, ρ, _, R, z, fun v H' s r => q v H' s (r.nl hnl fun a m => ?_)⟩
    rcases m with m | ⟨_, i, ds, e1, e2⟩
    · exact .inl (.inl m)
    · obtain ⟨p, vs, x, y, _⟩ := (R.mono s).own i ds e1
      rw [e2] at x
      cases x
      exact .inr ⟨_, y⟩
  · cases e
/-! operators -/
def rD (g : D → D → Option D) : R2 := fun x y H Q => ∃ M a b d, Dom M H ∧ Rp M H x a ∧ Rp M H y b ∧ g a b = some d ∧ ∀ v H', Same H H' → Rp M H' v d → Q v H'
def e2 (g : D → D → Option D) (f1 f2 : EF) : EF := fun ρ => (f1 ρ).bind fun a => (f2 ρ).bind fun b => g a b
theorem dOp2 {g : D → D → Option D} {f1 f2 : EF} {μ : Bool} {σ : L2.St} {H : Hp} {Q : VK} (q : tD μ (e2 g f1 f2) σ H Q) : tOp (rD g) (tD μ f1) (tD μ f2) σ H Q := by
  obtain ⟨M0, H0, ρ, d, R, e, q⟩ := q
  obtain ⟨a, ea, e⟩ := some_bind e
  obtain ⟨b, eb, e⟩ := some_bind e
  exact ⟨M0, H0, ρ, a, R, ea, fun x H1 s1 r1 => ⟨M0, H0, ρ, b, R.mono s1, eb, fun y H2 s2 r2 => ⟨_, a, b, d, (R.mono (s1.trans s2)).domu μ, r1.mono (.of s2), r2, e, fun v H3 s3 r3 => q v H3 ((s1.trans s2).trans s3) r3⟩⟩⟩
theorem dE_op {a b : Expr} {op : Operator} {pos : Pos} {g : D → D → Option D} {f1 f2 : EF} {μ : Bool} (o : OpR X (binaryOp op) (rD g)) (ha : PE X a (tD μ f1)) (hb : PE X b (tD μ f2)) : PE X (.BinOp a op b pos) (tD μ (e2 g f1 f2)) := (pe_op o ha hb).wk fun _ _ _ q => dOp2 q
theorem dE_cmp {a b : Expr} {op : CmpOp} {pos : Pos} {g : D → D → Option D} {f1 f2 : EF} {μ : Bool} (o : OpR X (compareOp op) (rD g)) (ha : PE X a (tD μ f1)) (hb : PE X b (tD μ f2)) (hm : behindInMarks op b = false) : PE X (.Compare a [op] [b] pos) (tD μ (e2 g f1 f2)) := (pe_cmpR o ha hb hm).wk fun _ _ _ q => dOp2 q
def bB : D → Option Bool
  | .bool b => some b
  | _ => none
theorem Rp.ofB {M : Addr → Prop} {H : Hp} {v : V} {d : D} {b : Bool} (r : Rp M H v d) (h : bB d = some b) : v = .bl b := by
  cases r <;> cases h
  rfl
def oB (f : EF) : Rho → Option Bool := fun ρ => (f ρ).bind bB
theorem dTest {f : EF} {μ : Bool} {σ : L2.St} {H : Hp} {Q : Bool → Hp → Prop} (q : tT (oB f) σ H Q) : tD μ f σ H (fun x H1 => ∃ c, x = V.bl c ∧ Q c H1) := by
  obtain ⟨M0, H0, ρ, b, R, e, q⟩ := q
  obtain ⟨d, ed, e⟩ := some_bind e
  exact ⟨M0, H0, ρ, d, R, ed, fun v H1 s r => ⟨b, r.ofB e, q _ s⟩⟩
theorem dT_cmp {a b : Expr} {op : CmpOp} {pos : Pos} {g : D → D → Option D} {f1 f2 : EF} {μ : Bool} (o : OpR X (compareOp op) (rD g)) (ha : PE X a (tD μ f1)) (hb : PE X b (tD μ f2)) (hm : behindInMarks op b = false) : PT X (.Compare a [op] [b] pos) (tT (oB (e2 g f1 f2))) := (pt_cmpR o ha hb hm).wk fun σ H Q q => by
  have := dTest (μ := μ) q
  exact dOp2 this
theorem dT_val {e : Expr} {f : EF} {μ : Bool} (h : PE X e (tD μ f)) (ht : ∀ (whole : Sem Value), PySem.isTrue e X.env whole = (do
          let v ← whole
          standAt e.pos
          holding [v] (truthy v)) := by intro _; rfl) : PT X e (tT (oB f)) := (pt_val h ht).wk fun σ H Q q => dTest q
def oNot (f : Rho → Option Bool) : Rho → Option Bool := fun ρ => (f ρ).map (!·)
theorem dT_not {a : Expr} {pos : Pos} {f : Rho → Option Bool} (h : PT X a (tT f)) : PT X (.UnaryOp .Not a pos) (tT (oNot f)) := (pt_not h).wk fun σ H Q q => by
  obtain ⟨M0, H0, ρ, b, R, e, q⟩ := q
  unfold oNot at e
  cases z : f ρ with
  | none => rw [z] at e; cases e
  | some c => rw [z] at e; cases e; exact ⟨M0, H0, ρ, c, R, z, q⟩
def oAnd (f g : Rho → Option Bool) : Rho → Option Bool := fun ρ => (f ρ).bind fun b => if b = true then g ρ else some false
def oOr (f g : Rho → Option Bool) : Rho → Option Bool := fun ρ => (f ρ).bind fun b => if b = true then some true else g ρ
theorem dW_and1 {a : Expr} {pos : Pos} {f : Rho → Option Bool} (h : PT X a (tT f)) : PW X (.BoolOp .And [a] pos) (tT f) := pw_and1 h
theorem dW_or1 {a : Expr} {pos : Pos} {f : Rho → Option Bool} (h : PT X a (tT f)) : PW X (.BoolOp .Or [a] pos) (tT f) := pw_or1 h
theorem dW_and {a b : Expr} {rest : List Expr} {pos : Pos} {f g : Rho → Option Bool} (ha : PT X a (tT f)) (hb : PW X (.BoolOp .And (b :: rest) pos) (tT g)) : PW X (.BoolOp .And (a :: b :: rest) pos) (tT (oAnd f g)) := (pw_and ha hb).wk fun σ H Q q => by
  obtain ⟨M0, H0, ρ, b, R, e, q⟩ := q
  obtain ⟨c, ec, e⟩ := some_bind e
  refine ⟨M0, H0, ρ, c, R, ec, fun H1 s1 => ?_⟩
  cases c with
  | true => exact ⟨M0, H0, ρ, b, R.mono s1, e, fun H2 s2 => q H2 (s1.trans s2)⟩
  | false => cases e; exact q H1 s1
theorem dW_or {a b : Expr} {rest : List Expr} {pos : Pos} {f g : Rho → Option Bool} (ha : PT X a (tT f)) (hb : PW X (.BoolOp .Or (b :: rest) pos) (tT g)) : PW X (.BoolOp .Or (a :: b :: rest) pos) (tT (oOr f g)) := (pw_or ha hb).wk fun σ H Q q => by
  obtain ⟨M0, H0, ρ, b, R, e, q⟩ := q
  obtain ⟨c, ec, e⟩ := some_bind e
  refine ⟨M0, H0, ρ, c, R, ec, fun H1 s1 => ?_⟩
  cases c with
  | true => cases e; exact q H1 s1
  | false => exact ⟨M0, H0, ρ, b, R.mono s1, e, fun H2 s2 => q H2 (s1.trans s2)⟩
/-! and, or, not, if as values -/
def eAnd (f g : EF) : EF := fun ρ => ((f ρ).bind bB).bind fun b => if b = true then g ρ else some (.bool false)
def eOr (f g : EF) : EF := fun ρ => ((f ρ).bind bB).bind fun b => if b = true then some (.bool true) else g ρ
theorem dE_one {a : Expr} {op : BoolOp} {pos : Pos} {f : EF} {μ : Bool} (h : PE X a (tD μ f)) : PE X (.BoolOp op [a] pos) (tD μ f) := pe_one h
theorem dE_and {a b : Expr} {rest : List Expr} {pos : Pos} {f g : EF} {μ : Bool} (ha : PE X a (tD μ f)) (hb : PE X (.BoolOp .And (b :: rest) pos) (tD μ g)) : PE X (.BoolOp .And (a :: b :: rest) pos) (tD μ (eAnd f g)) := (pe_and ha hb).wk fun σ H Q q => by
  obtain ⟨M0, H0, ρ, d, R, e, q⟩ := q
  obtain ⟨c, ec, e⟩ := some_bind e
  obtain ⟨d1, e1, ec⟩ := some_bind ec
  refine ⟨M0, H0, ρ, d1, R, e1, fun v H1 s1 r1 => ⟨c, r1.ofB ec, ?_⟩⟩
  cases c with
  | true => exact ⟨M0, H0, ρ, d, R.mono s1, e, fun v H2 s2 => q v H2 (s1.trans s2)⟩
  | false => cases e; exact q _ H1 s1 (.bl _)
theorem dE_or {a b : Expr} {rest : List Expr} {pos : Pos} {f g : EF} {μ : Bool} (ha : PE X a (tD μ f)) (hb : PE X (.BoolOp .Or (b :: rest) pos) (tD μ g)) : PE X (.BoolOp .Or (a :: b :: rest) pos) (tD μ (eOr f g)) := (pe_or ha hb).wk fun σ H Q q => by
  obtain ⟨M0, H0, ρ, d, R, e, q⟩ := q
  obtain ⟨c, ec, e⟩ := some_bind e
  obtain ⟨d1, e1, ec⟩ := some_bind ec
  refine ⟨M0, H0, ρ, d1, R, e1, fun v H1 s1 r1 => ⟨c, r1.ofB ec, ?_⟩⟩
  cases c with
  | true => cases e; exact q _ H1 s1 (.bl _)
  | false => exact ⟨M0, H0, ρ, d, R.mono s1, e, fun v H2 s2 => q v H2 (s1.trans s2)⟩
def eNot (f : EF) : EF := fun ρ => ((f ρ).bind bB).map fun b => .bool (!b)
theorem dE_not {a : Expr} {pos : Pos} {f : EF} {μ : Bool} (h : PE X a (tD μ f)) : PE X (.UnaryOp .Not a pos) (tD μ (eNot f)) := (pe_not h).wk fun σ H Q q => by
  obtain ⟨M0, H0, ρ, d, R, e, q⟩ := q
  unfold eNot at e
  cases z : (f ρ).bind bB with
  | none => rw [z] at e; cases e
  | some c =>
    rw [z] at e
    cases e
    obtain ⟨d1, e1, ec⟩ := some_bind z
    exact ⟨M0, H0, ρ, d1, R, e1, fun v H1 s1 r1 => ⟨c, r1.ofB ec, q _ _ s1 (.bl _)⟩⟩
/-- truth of data -/
def trD : D → Option Bool
  | .none => some false
  | .bool b => some b
  | .int i => some (i != 0)
  | .tuple ds => some (!ds.isEmpty)
  | .list ds => some (!ds.isEmpty)
  | _ => none
theorem Rp.tru {K : PySem.W.Frag} {M : Addr → Prop} {H : Hp} {v : V} {d : D} {b : Bool} (r : Rp M H v d) (h : trD d = some b) : TruV K v H b := by
  cases r with
  | non => cases h; rfl
  | bl b => cases h; rfl
  | int i => cases h; rfl
  | str x hx => cases h
  | tup t n l a =>
    cases h
    refine .inr (.inl ⟨_, t.sq, ?_⟩)
    cases a <;> rfl
  | lst t n l a =>
    cases h
    refine .inl ⟨_, SqL.of t, ?_⟩
    cases a <;> rfl
  | dic t n => cases h
def eOrT (f g : EF) : EF := fun ρ => (f ρ).bind fun d => (trD d).bind fun b => if b = true then some d else g ρ
theorem dE_orT {a b : Expr} {rest : List Expr} {pos : Pos} {f g : EF} {μ : Bool} (ha : PE X a (tD μ f)) (hb : PE X (.BoolOp .Or (b :: rest) pos) (tD μ g)) : PE X (.BoolOp .Or (a :: b :: rest) pos) (tD μ (eOrT f g)) := (pe_orT ha hb).wk fun σ H Q q => by
  obtain ⟨M0, H0, ρ, d, R, e, q⟩ := q
  obtain ⟨d1, e1, e⟩ := some_bind e
  obtain ⟨c, ec, e⟩ := some_bind e
  refine ⟨M0, H0, ρ, d1, R, e1, fun v H1 s1 r1 => ⟨c, r1.tru ec, ?_⟩⟩
  cases c with
  | true => cases e; exact q _ H1 s1 r1
  | false => exact ⟨M0, H0, ρ, d, R.mono s1, e, fun v H2 s2 => q v H2 (s1.trans s2)⟩
def oTr (f : EF) : Rho → Option Bool := fun ρ => (f ρ).bind trD
theorem dT_truth {e : Expr} {f : EF} {μ : Bool} (h : PE X e (tD μ f)) (ht : ∀ (whole : Sem Value), PySem.isTrue e X.env whole = (do
          let v ← whole
          standAt e.pos
          holding [v] (truthy v)) := by intro _; rfl) : PT X e (tT (oTr f)) := (pt_truth h ht).wk fun σ H Q q => by
  obtain ⟨M0, H0, ρ, b, R, e, q⟩ := q
  obtain ⟨d1, e1, e⟩ := some_bind e
  exact ⟨M0, H0, ρ, d1, R, e1, fun v H1 s1 r1 => ⟨b, r1.tru e, q _ s1⟩⟩
def eIf (c : Rho → Option Bool) (f g : EF) : EF := fun ρ => (c ρ).bind fun b => if b = true then f ρ else g ρ
theorem dE_if {a b c : Expr} {pos : Pos} {t : Rho → Option Bool} {f g : EF} {μ : Bool} (hc : PT X c (tT t)) (ha : PE X a (tD μ f)) (hb : PE X b (tD μ g)) : PE X (c.IfExp a b pos) (tD μ (eIf t f g)) := (pe_ifExp hc ha hb).wk fun σ H Q q => by
  obtain ⟨M0, H0, ρ, d, R, e, q⟩ := q
  obtain ⟨c, ec, e⟩ := some_bind e
  refine ⟨M0, H0, ρ, c, R, ec, fun H1 s1 => ?_⟩
  cases c with
  | true => exact ⟨M0, H0, ρ, d, R.mono s1, e, fun v H2 s2 => q v H2 (s1.trans s2)⟩
  | false => exact ⟨M0, H0, ρ, d, R.mono s1, e, fun v H2 s2 => q v H2 (s1.trans s2)⟩
def eChain (g g' : D → D → Option D) (f1 f2 f3 : EF) : EF := fun ρ => (f1 ρ).bind fun a => (f2 ρ).bind fun b => ((g a b).bind bB).bind fun k => if k = true then (f3 ρ).bind fun c => g' b c else some (.bool false)
theorem dChain {g g' : D → D → Option D} {f1 f2 f3 : EF} {μ : Bool} {σ : L2.St} {H : Hp} {Q : VK} (q : tD μ (eChain g g' f1 f2 f3) σ H Q) : tChain (rD g) (rD g') (tD μ f1) (tD μ f2) (tD μ f3) σ H Q := by
  obtain ⟨M0, H0, ρ, d, R, e, q⟩ := q
  obtain ⟨a, ea, e⟩ := some_bind e
  obtain ⟨b, eb, e⟩ := some_bind e
  obtain ⟨k, ek, e⟩ := some_bind e
  obtain ⟨z, ez, ek⟩ := some_bind ek
  refine ⟨M0, H0, ρ, a, R, ea, fun x H1 s1 r1 => ⟨M0, H0, ρ, b, R.mono s1, eb, fun y H2 s2 r2 => ⟨_, a, b, z, (R.mono (s1.trans s2)).domu μ, r1.mono (.of s2), r2, ez, fun v H3 s3 r3 => ⟨k, r3.ofB ek, ?_⟩⟩⟩⟩
  have s13 := (s1.trans s2).trans s3
  cases k with
  | true =>
    obtain ⟨c, ec, e⟩ := some_bind e
    exact ⟨M0, H0, ρ, c, R.mono s13, ec, fun w H4 s4 r4 => ⟨_, b, c, d, (R.mono (s13.trans s4)).domu μ, r2.mono (.of (s3.trans s4)), r4, e, fun v H5 s5 r5 => q v H5 ((s13.trans s4).trans s5) r5⟩⟩
  | false => cases e; exact q _ _ s13 (.bl _)
theorem dE_chain {a b c : Expr} {op op' : CmpOp} {pos : Pos} {g g' : D → D → Option D} {f1 f2 f3 : EF} {μ : Bool} (o : OpR X (compareOp op) (rD g)) (o' : OpR X (compareOp op') (rD g')) (ha : PE X a (tD μ f1)) (hb : PE X b (tD μ f2)) (hc : PE X c (tD μ f3)) (hm : lastMarks [op, op'] [b, c] = false := by rfl) : PE X (a.Compare [op, op'] [b, c] pos) (tD μ (eChain g g' f1 f2 f3)) := (pe_chain o o' ha hb hc hm).wk fun _ _ _ q => dChain q
theorem dT_chain {a b c : Expr} {op op' : CmpOp} {pos : Pos} {g g' : D → D → Option D} {f1 f2 f3 : EF} {μ : Bool} (o : OpR X (compareOp op) (rD g)) (o' : OpR X (compareOp op') (rD g')) (ha : PE X a (tD μ f1)) (hb : PE X b (tD μ f2)) (hc : PE X c (tD μ f3)) (hm : lastMarks [op, op'] [b, c] = false := by rfl) : PT X (a.Compare [op, op'] [b, c] pos) (tT (oB (eChain g g' f1 f2 f3))) := (pt_chain o o' ha hb hc hm).wk fun _ _ _ q => by
  have := dTest (μ := μ) q
  exact dChain this
end
end Dl
namespace Dl
open PySem PySem.Spec PyProof.Rows L2 Rt
section
variable {X : Cx}
/-- a tuple that was made -/
theorem Inv.tupF {pn : List (Addr × Obj)} {σ : L2.St} {H : Hp} {s : Shared} {us : List Value} {xs : List V} (I : L2.Inv X pn σ H s) (r : Vals xs us) (hz : xs.length ≤ sizeLine) :
    L2.Inv X pn σ (upd H s.heap.objs.size (.frz { cls := .type "tuple", data := .seq us.toArray } (.tup xs))) { s with heap := s.heap.push { cls := .type "tuple", data := .seq us.toArray } } :=
  I.laid (t' := s.toks) (fun b o e => Heap.get?_push_of_some _ e) (Nat.le_refl _) (show ObjOk X.prog X.w _ _ _ (.frz { cls := .type "tuple", data := .seq us.toArray } (.tup xs)) from ⟨Heap.get?_push_size _ rfl, hz, us, r, IsTup.new _ _⟩)
theorem updF {H : Hp} {p : Addr} {xs : List V} {us : List Value} : TupF (upd H p (.frz { cls := .type "tuple", data := .seq us.toArray } (.tup xs))) p xs := ⟨_, upd_same, rfl⟩
/-- (a, b) -/
def tTupF (t : TA) : TE := fun σ H Q => t σ H fun xs H1 => xs.length ≤ sizeLine ∧ ∀ p H', H1 p = none → Same H1 H' → TupF H' p xs → Q (.ref p) H'
theorem pe_tupF {es : List Expr} {t : TA} {x1 : Nat} {pos : Pos} (h : PA X es t) : PE X (.Tuple es x1 pos) (tTupF t) :=
  ⟨fun pn s σ H Q I hq => wpAny_Tuple_spliced (thn (h.run pos pn s σ H _ I hq) fun us s1 ⟨xs, H1, I1, r, z, q⟩ => ⟨by rw [← r.length]; exact z, .ref s1.heap.objs.size, _, Inv.tupF I1 r z, rfl, q _ _ (I1.hok.fresh (Nat.le_refl _)) (smN (I1.hok.fresh (Nat.le_refl _))) updF⟩)⟩
/-- t + u -/
def rCatF : R2 := fun x y H Q => ∃ a b xs ys, x = .ref a ∧ y = .ref b ∧ TupF H a xs ∧ TupF H b ys ∧ xs.length + ys.length ≤ sizeLine ∧ ∀ p H', (H p = none ∨ p = a ∨ p = b) → Same H H' → TupF H' p (xs ++ ys) → Q (.ref p) H'
theorem op_catF : OpR X (binaryOp .Add) rCatF := by
  intro pins s σ H x y v u Q I rx ry h
  obtain ⟨a, b, xs, ys, rfl, rfl, ha, hb, hz, q⟩ := h
  by_cases e1 : xs = []
  · subst e1
    exact op_catA pins s σ H _ _ v u Q I rx ry ⟨a, b, [], ys, rfl, rfl, ha.sq, hb.sq, hz, fun e => q b H (.inr (.inr rfl)) (Same.refl H) hb, fun e _ => (e rfl).elim, fun e _ => (e rfl).elim⟩
  by_cases e2 : ys = []
  · subst e2
    refine op_catA pins s σ H _ _ v u Q I rx ry ⟨a, b, xs, [], rfl, rfl, ha.sq, hb.sq, hz, fun e => (e1 e).elim, fun _ _ => q a H (.inr (.inl rfl)) (Same.refl H) (by rw [List.append_nil]; exact ha), fun _ e => (e rfl).elim⟩
  cases rx
  cases ry
  obtain ⟨its, r1, p1, _⟩ := I.tuple (ha.sq (K := X.K))
  obtain ⟨its2, r2, p2, _⟩ := I.tuple (hb.sq (K := X.K))
  refine HT.cat_tup p1 p2 (fun z => e1 (r1.nil_iff.mp z)) (fun z => (e2 (r2.nil_iff.mp z)).elim) (fun z => ?_) (by rw [← r1.length, ← r2.length]; exact hz)
  have fr := I.hok.fresh (Nat.le_refl s.heap.objs.size)
  exact ⟨.ref s.heap.objs.size, _, Inv.tupF I (r1.append r2) (by rw [List.length_append]; exact hz), rfl, q _ _ (.inl fr) (smN fr) updF⟩
/-- t[lo:hi] -/
def rSlF : V → Option Int → Option Int → Hp → VK → Prop := fun x lo hi H Q => ∃ a xs, x = .ref a ∧ TupF H a xs ∧ ∀ p H', (H p = none ∨ p = a) → Same H H' → TupF H' p (cutV xs lo hi) → Q (.ref p) H'
theorem sl_tupF : SlR X rSlF := by
  intro pins s σ H x v vl vu lo hi sl Q I rx hs pl pu h
  obtain ⟨a, xs, rfl, ha, q⟩ := h
  by_cases hw : HT.sIx xs.length 0 lo = 0 ∧ HT.sIx xs.length xs.length hi = xs.length
  · refine sl_tupA pins s σ H _ v vl vu lo hi sl Q I rx hs pl pu ⟨a, xs, rfl, ha.sq, fun hw => q a H (.inr rfl) (Same.refl H) ?_, fun h => (h hw).elim⟩
    unfold cutV
    rw [hw.1, hw.2, List.drop_zero, Nat.sub_zero, List.take_length]
    exact ha
  cases rx
  obtain ⟨its, r, ht, hz⟩ := I.tuple (ha.sq (K := X.K))
  have hlen : its.toArray.size = xs.length := by rw [List.size_toArray]; exact r.length.symm
  have fr := I.hok.fresh (Nat.le_refl s.heap.objs.size)
  refine ⟨"tuple", "tuple.__getitem__", PyProof.Rows.slot_tuple_getitem.lookup, ht.typeIs, HT.getItem_tuple_cut ht hs pl pu (by rw [hlen]; exact hw) ?_ (by rw [hlen]; exact hz)⟩
  rw [hlen]
  exact ⟨.ref s.heap.objs.size, _, Inv.tupF I ((r.drop _).take _) (Nat.le_trans (cutV_length xs lo hi) hz), rfl, q _ _ (.inl fr) (smN fr) updF⟩
end
end Dl
namespace Dl
open PySem PySem.Spec PyProof.Rows L2 Rt
theorem iteS {α : Type} {c : Prop} [Decidable c] {a b : α} (h : (if c then some a else none) = some b) : c ∧ a = b := by
  by_cases e : c
  · rw [if_pos e] at h; cases h; exact ⟨e, rfl⟩
  · rw [if_neg e] at h; cases h
/-! what operators tell -/
def addD : D → D → Option D
  | .int i, .int j => some (.int (i + j))
  | .tuple a, .tuple b => if a.length + b.length ≤ sizeLine then some (.tuple (a ++ b)) else none
  | .list a, .list b => if a.length + b.length ≤ sizeLine then some (.list (a ++ b)) else none
  | .str a, .str b => if a.length + b.length ≤ sizeLine then some (.str (a ++ b)) else none
  | _, _ => none
def subD : D → D → Option D
  | .int i, .int j => some (.int (i - j))
  | _, _ => none
def mulD : D → D → Option D
  | .int i, .int j => if (-(2 ^ 64) < i ∧ i < 2 ^ 64) ∨ (-(2 ^ 64) < j ∧ j < 2 ^ 64) then some (.int (i * j)) else none
  | _, _ => none
def modD : D → D → Option D
  | .int i, .int j => if 0 < j then some (.int (i % j)) else none
  | _, _ => none
def fdivD : D → D → Option D
  | .int i, .int j => if 0 < j ∧ j < 2 ^ 60 then some (.int (i / j)) else none
  | _, _ => none
def powD : D → D → Option D
  | .int i, .int j => if 0 ≤ j ∧ j ≤ 1000000 ∧ i.natAbs < 2 ^ 64 then some (.int (i ^ j.toNat)) else none
  | _, _ => none
def ltD : D → D → Option D
  | .int i, .int j => some (.bool (decide (i < j)))
  | .str i, .str j => some (.bool (decide (i.cps.toList < j.cps.toList)))
  | _, _ => none
def leD : D → D → Option D
  | .int i, .int j => some (.bool (decide (i ≤ j)))
  | .str i, .str j => some (.bool (!decide (j.cps.toList < i.cps.toList)))
  | _, _ => none
def gtD : D → D → Option D
  | .int i, .int j => some (.bool (decide (i > j)))
  | _, _ => none
def geD : D → D → Option D
  | .int i, .int j => some (.bool (decide (i ≥ j)))
  | .str i, .str j => some (.bool (!decide (i.cps.toList < j.cps.toList)))
  | _, _ => none
/-- it can be compared and shown: no dict in it, not too deep -/
def okD (d : D) : Bool := !d.hasDict && SeqAt.shaped d
def eqD (a b : D) : Option D := if (okD a && okD b) = true then some (.bool (PyData.eqv a b)) else none
def neD (a b : D) : Option D := if (okD a && okD b) = true then some (.bool (!PyData.eqv a b)) else none
def isND : D → D → Option D
  | .none, .none => some (.bool true)
  | _, .none => some (.bool false)
  | _, _ => none
def noND : D → D → Option D
  | .none, .none => some (.bool false)
  | _, .none => some (.bool true)
  | _, _ => none
def inD : D → D → Option D
  | a, .tuple ds => if (okD a && okD (.tuple ds)) = true then some (.bool (ds.any fun z => PyData.eqv z a)) else none
  | a, .list ds => if (okD a && okD (.list ds)) = true then some (.bool (ds.any fun z => PyData.eqv z a)) else none
  | .str i, .str j => match i.cps.toList with
    | [c] => some (.bool (decide (c ∈ j.cps.toList)))
    | _ => none
  | _, _ => none
def ninD : D → D → Option D
  | a, .tuple ds => if (okD a && okD (.tuple ds)) = true then some (.bool (!ds.any fun z => PyData.eqv z a)) else none
  | a, .list ds => if (okD a && okD (.list ds)) = true then some (.bool (!ds.any fun z => PyData.eqv z a)) else none
  | .str i, .str j => match i.cps.toList with
    | [c] => some (.bool (!decide (c ∈ j.cps.toList)))
    | _ => none
  | _, _ => none
theorem one_sign {i : Str} {c : Nat} (h : i.cps.toList = [c]) : i = ⟨#[c]⟩ := by
  cases i with
  | mk a =>
    have h : a.toList = [c] := h
    congr
    rw [← Array.toArray_toList (xs := a), h]
theorem okD.parts {d : D} (h : okD d = true) : d.hasDict = false ∧ SeqAt.shaped d = true := by
  have := Bool.and_eq_true_iff.mp h
  exact ⟨by simpa using this.1, this.2⟩
section
variable {X : Cx}
theorem o_add : OpR X (binaryOp .Add) (rD addD) := by
  intro pn s σ H x y v u Q I rx ry h
  obtain ⟨M, a, b, d, dm, ra, rb, e, q⟩ := h
  cases ra <;> cases rb <;> try (cases e; done)
  · cases e
    exact op_add pn s σ H _ _ v u Q I rx ry ⟨_, _, rfl, rfl, q _ _ (Same.refl _) (.int _)⟩
  · obtain ⟨l, rfl⟩ := iteS e
    exact op_add_str pn s σ H _ _ v u Q I rx ry ⟨_, _, rfl, rfl, l, q _ _ (Same.refl _) (.str _ (by show (Array.size (_ ++ _)) ≤ _; rw [Array.size_append]; exact l))⟩
  · rename_i t1 n1 l1 r1 _ _ _ t2 n2 l2 r2
    obtain ⟨l, rfl⟩ := iteS e
    refine op_catF pn s σ H _ _ v u Q I rx ry ⟨_, _, _, _, rfl, rfl, t1, t2, by rw [r1.len, r2.len]; exact l, fun p H' hp sm t => q _ H' sm (.tup t (fun m => ?_) (by rw [List.length_append, r1.len, r2.len]; exact l) ((r1.mono (.of sm)).app (r2.mono (.of sm))))⟩
    rcases hp with hp | hp | hp
    · exact dm p m hp
    · rw [hp] at m; exact n1 m
    · rw [hp] at m; exact n2 m
  · rename_i t1 n1 l1 r1 _ _ _ t2 n2 l2 r2
    obtain ⟨l, rfl⟩ := iteS e
    exact op_cat pn s σ H _ _ v u Q I rx ry ⟨_, _, _, _, rfl, rfl, t1, t2, by rw [r1.len, r2.len]; exact l, fun p hp => q _ _ (smN hp) (.lst upd_same (fun m => dm p m hp) (by rw [List.length_append, r1.len, r2.len]; exact l) ((r1.mono (.of (smN hp))).app (r2.mono (.of (smN hp)))))⟩
theorem o_sub : OpR X (binaryOp .Sub) (rD subD) := by
  intro pn s σ H x y v u Q I rx ry h
  obtain ⟨M, a, b, d, dm, ra, rb, e, q⟩ := h
  cases ra <;> cases rb <;> try (cases e; done)
  cases e
  exact op_sub pn s σ H _ _ v u Q I rx ry ⟨_, _, rfl, rfl, q _ _ (Same.refl _) (.int _)⟩
theorem o_mul : OpR X (binaryOp .Mult) (rD mulD) := by
  intro pn s σ H x y v u Q I rx ry h
  obtain ⟨M, a, b, d, dm, ra, rb, e, q⟩ := h
  cases ra <;> cases rb <;> try (cases e; done)
  obtain ⟨l, rfl⟩ := iteS e
  exact op_mul pn s σ H _ _ v u Q I rx ry ⟨_, _, rfl, rfl, l, q _ _ (Same.refl _) (.int _)⟩
theorem o_mod : OpR X (binaryOp .Mod) (rD modD) := by
  intro pn s σ H x y v u Q I rx ry h
  obtain ⟨M, a, b, d, dm, ra, rb, e, q⟩ := h
  cases ra <;> cases rb <;> try (cases e; done)
  obtain ⟨l, rfl⟩ := iteS e
  exact op_mod pn s σ H _ _ v u Q I rx ry ⟨_, _, rfl, rfl, l, q _ _ (Same.refl _) (.int _)⟩
theorem o_fdiv : OpR X (binaryOp .FloorDiv) (rD fdivD) := by
  intro pn s σ H x y v u Q I rx ry h
  obtain ⟨M, a, b, d, dm, ra, rb, e, q⟩ := h
  cases ra <;> cases rb <;> try (cases e; done)
  obtain ⟨l, rfl⟩ := iteS e
  exact op_fdivW pn s σ H _ _ v u Q I rx ry ⟨_, _, rfl, rfl, wide_div (b := 60) l.1 (by omega) (by decide) (by decide), q _ _ (Same.refl _) (.int _)⟩
theorem o_pow : OpR X (binaryOp .Pow) (rD powD) := by
  intro pn s σ H x y v u Q I rx ry h
  obtain ⟨M, a, b, d, dm, ra, rb, e, q⟩ := h
  cases ra <;> cases rb <;> try (cases e; done)
  obtain ⟨l, rfl⟩ := iteS e
  exact op_pow pn s σ H _ _ v u Q I rx ry ⟨_, _, rfl, rfl, l, q _ _ (Same.refl _) (.int _)⟩
theorem o_lt : OpR X (compareOp .Lt) (rD ltD) := by
  intro pn s σ H x y v u Q I rx ry h
  obtain ⟨M, a, b, d, dm, ra, rb, e, q⟩ := h
  cases ra <;> cases rb <;> try (cases e; done)
  · cases e
    exact op_lt pn s σ H _ _ v u Q I rx ry ⟨_, _, rfl, rfl, q _ _ (Same.refl _) (.bl _)⟩
  · cases e
    exact op_lt_str pn s σ H _ _ v u Q I rx ry ⟨_, _, rfl, rfl, q _ _ (Same.refl _) (.bl _)⟩
theorem o_le : OpR X (compareOp .LtE) (rD leD) := by
  intro pn s σ H x y v u Q I rx ry h
  obtain ⟨M, a, b, d, dm, ra, rb, e, q⟩ := h
  cases ra <;> cases rb <;> try (cases e; done)
  · cases e
    exact op_le pn s σ H _ _ v u Q I rx ry ⟨_, _, rfl, rfl, q _ _ (Same.refl _) (.bl _)⟩
  · cases e
    exact op_le_str pn s σ H _ _ v u Q I rx ry ⟨_, _, rfl, rfl, q _ _ (Same.refl _) (.bl _)⟩
theorem o_gt : OpR X (compareOp .Gt) (rD gtD) := by
  intro pn s σ H x y v u Q I rx ry h
  obtain ⟨M, a, b, d, dm, ra, rb, e, q⟩ := h
  cases ra <;> cases rb <;> try (cases e; done)
  cases e
  exact op_gt pn s σ H _ _ v u Q I rx ry ⟨_, _, rfl, rfl, q _ _ (Same.refl _) (.bl _)⟩
theorem o_ge : OpR X (compareOp .GtE) (rD geD) := by
  intro pn s σ H x y v u Q I rx ry h
  obtain ⟨M, a, b, d, dm, ra, rb, e, q⟩ := h
  cases ra <;> cases rb <;> try (cases e; done)
  · cases e
    exact op_ge pn s σ H _ _ v u Q I rx ry ⟨_, _, rfl, rfl, q _ _ (Same.refl _) (.bl _)⟩
  · cases e
    exact op_ge_str pn s σ H _ _ v u Q I rx ry ⟨_, _, rfl, rfl, q _ _ (Same.refl _) (.bl _)⟩
theorem o_eq (hu : X.A.units + 64 < cLine) : OpR X (compareOp .Eq) (rD eqD) := by
  intro pn s σ H x y v u Q I rx ry h
  obtain ⟨M, a, b, d, dm, ra, rb, e, q⟩ := h
  obtain ⟨l, rfl⟩ := iteS e
  have l := Bool.and_eq_true_iff.mp l
  exact op_eqD hu pn s σ H _ _ v u Q I rx ry ⟨a, b, ra.dp (okD.parts l.1).1, rb.dp (okD.parts l.2).1, (okD.parts l.1).2, (okD.parts l.2).2, q _ _ (Same.refl _) (.bl _)⟩
theorem o_ne (hu : X.A.units + 64 < cLine) : OpR X (compareOp .NotEq) (rD neD) := by
  intro pn s σ H x y v u Q I rx ry h
  obtain ⟨M, a, b, d, dm, ra, rb, e, q⟩ := h
  obtain ⟨l, rfl⟩ := iteS e
  have l := Bool.and_eq_true_iff.mp l
  exact op_neD hu pn s σ H _ _ v u Q I rx ry ⟨a, b, ra.dp (okD.parts l.1).1, rb.dp (okD.parts l.2).1, (okD.parts l.1).2, (okD.parts l.2).2, q _ _ (Same.refl _) (.bl _)⟩
theorem o_is : OpR X (compareOp .Is) (rD isND) := by
  intro pn s σ H x y v u Q I rx ry h
  obtain ⟨M, a, b, d, dm, ra, rb, e, q⟩ := h
  cases rb <;> (try (cases ra <;> cases e; done))
  refine op_isN pn s σ H _ _ v u Q I rx ry ⟨rfl, ?_⟩
  cases ra <;> cases e <;> exact q _ _ (Same.refl _) (.bl _)
theorem o_isnot : OpR X (compareOp .IsNot) (rD noND) := by
  intro pn s σ H x y v u Q I rx ry h
  obtain ⟨M, a, b, d, dm, ra, rb, e, q⟩ := h
  cases rb <;> (try (cases ra <;> cases e; done))
  refine op_notN pn s σ H _ _ v u Q I rx ry ⟨rfl, ?_⟩
  cases ra <;> cases e <;> exact q _ _ (Same.refl _) (.bl _)
theorem o_in (hu : X.A.units + 65 < cLine) : OpR X (compareOp .In) (rD inD) := by
  intro pn s σ H x y v u Q I rx ry h
  obtain ⟨M, a, b, d, dm, ra, rb, e, q⟩ := h
  cases rb <;> (try (cases ra <;> cases e; done))
  · cases ra <;> try (cases e; done)
    rename_i i hi
    simp only [inD] at e
    split at e
    · rename_i c hc
      cases e
      exact op_in_sign pn s σ H _ _ v u Q I rx ry ⟨c, _, by rw [one_sign hc], rfl, q _ _ (Same.refl _) (.bl _)⟩
    · cases e
  · rename_i xs ds t n l r
    obtain ⟨l2, rfl⟩ := iteS (show (if (okD a && okD (.tuple ds)) = true then some (PyData.bool (ds.any fun z => PyData.eqv z a)) else none) = some d by cases a <;> exact e)
    have l2 := Bool.and_eq_true_iff.mp l2
    have rb : Rp M H (.ref _) (.tuple ds) := .tup t n l r
    obtain ⟨as, r1⟩ := Dp.reads I _ _ v (ra.dp (okD.parts l2.1).1) rx
    obtain ⟨bs, r2⟩ := Dp.reads I _ _ u (rb.dp (okD.parts l2.2).1) ry
    exact SeqAt.in_tuple_reads r2 r1 (SeqAt.canLay_of_shaped (okD.parts l2.2).2) (SeqAt.canLay_of_shaped (okD.parts l2.1).2) (room_in_shaped (okD.parts l2.1).2 hu) ⟨.bl _, H, I, rfl, q _ _ (Same.refl _) (.bl _)⟩
  · rename_i xs ds t n l r
    obtain ⟨l2, rfl⟩ := iteS (show (if (okD a && okD (.list ds)) = true then some (PyData.bool (ds.any fun z => PyData.eqv z a)) else none) = some d by cases a <;> exact e)
    have l2 := Bool.and_eq_true_iff.mp l2
    have rb : Rp M H (.ref _) (.list ds) := .lst t n l r
    exact op_inD hu pn s σ H _ _ v u Q I rx ry ⟨a, ds, ra.dp (okD.parts l2.1).1, rb.dp (okD.parts l2.2).1, (okD.parts l2.1).2, (okD.parts l2.2).2, q _ _ (Same.refl _) (.bl _)⟩
theorem o_nin (hu : X.A.units + 65 < cLine) : OpR X (compareOp .NotIn) (rD ninD) := by
  intro pn s σ H x y v u Q I rx ry h
  obtain ⟨M, a, b, d, dm, ra, rb, e, q⟩ := h
  cases rb <;> (try (cases ra <;> cases e; done))
  · cases ra <;> try (cases e; done)
    rename_i i hi
    simp only [ninD] at e
    split at e
    · rename_i c hc
      cases e
      exact op_notIn_sign pn s σ H _ _ v u Q I rx ry ⟨c, _, by rw [one_sign hc], rfl, q _ _ (Same.refl _) (.bl _)⟩
    · cases e
  · rename_i xs ds t n l r
    obtain ⟨l2, rfl⟩ := iteS (show (if (okD a && okD (.tuple ds)) = true then some (PyData.bool (!ds.any fun z => PyData.eqv z a)) else none) = some d by cases a <;> exact e)
    have l2 := Bool.and_eq_true_iff.mp l2
    have rb : Rp M H (.ref _) (.tuple ds) := .tup t n l r
    obtain ⟨as, r1⟩ := Dp.reads I _ _ v (ra.dp (okD.parts l2.1).1) rx
    obtain ⟨bs, r2⟩ := Dp.reads I _ _ u (rb.dp (okD.parts l2.2).1) ry
    exact SeqAt.notIn_tuple_reads r2 r1 (SeqAt.canLay_of_shaped (okD.parts l2.2).2) (SeqAt.canLay_of_shaped (okD.parts l2.1).2) (room_in_shaped (okD.parts l2.1).2 hu) ⟨.bl _, H, I, rfl, q _ _ (Same.refl _) (.bl _)⟩
  · rename_i xs ds t n l r
    obtain ⟨l2, rfl⟩ := iteS (show (if (okD a && okD (.list ds)) = true then some (PyData.bool (!ds.any fun z => PyData.eqv z a)) else none) = some d by cases a <;> exact e)
    have l2 := Bool.and_eq_true_iff.mp l2
    have rb : Rp M H (.ref _) (.list ds) := .lst t n l r
    exact op_notInD hu pn s σ H _ _ v u Q I rx ry ⟨a, ds, ra.dp (okD.parts l2.1).1, rb.dp (okD.parts l2.2).1, (okD.parts l2.1).2, (okD.parts l2.2).2, q _ _ (Same.refl _) (.bl _)⟩
def negD : D → Option D
  | .int i => some (.int (-i))
  | _ => none
def e1 (g : D → Option D) (f : EF) : EF := fun ρ => (f ρ).bind g
theorem dE_neg {a : Expr} {pos : Pos} {f : EF} {μ : Bool} (h : PE X a (tD μ f)) : PE X (.UnaryOp .USub a pos) (tD μ (e1 negD f)) := (pe_un un_neg h).wk fun σ H Q q => by
  obtain ⟨M0, H0, ρ, d, R, e, q⟩ := q
  obtain ⟨d1, e1, e⟩ := some_bind e
  refine ⟨M0, H0, ρ, d1, R, e1, fun v H1 s1 r1 => ?_⟩
  cases r1 <;> cases e
  exact ⟨_, rfl, q _ _ s1 (.int _)⟩
/-! arguments, displays, subscripts, slices -/
def aNil : Rho → Option (List D) := fun _ => some []
def aCons (f : EF) (g : Rho → Option (List D)) : Rho → Option (List D) := fun ρ => (f ρ).bind fun d => (g ρ).map fun ds => d :: ds
theorem dA_nil {μ : Bool} : PA X [] (tA μ aNil) := PA.weak pa_nil fun σ H Q q => by
  obtain ⟨M0, H0, ρ, ds, R, e, q⟩ := q
  cases e
  exact ⟨Q, q [] H (Same.refl _) .nil, fun _ _ z => z⟩
theorem dA_cons {e : Expr} {es : List Expr} {f : EF} {g : Rho → Option (List D)} {μ : Bool} (h : PE X e (tD μ f)) (hs : PA X es (tA μ g)) (he : starEach (e :: es) X.env = (false, eval e X.env) :: starEach es X.env := by rfl) : PA X (e :: es) (tA μ (aCons f g)) := PA.weak (pa_cons h hs he) fun σ H Q q => by
  obtain ⟨M0, H0, ρ, ds, R, e, q⟩ := q
  obtain ⟨d, ed, e⟩ := some_bind e
  cases z : g ρ with
  | none => rw [z] at e; cases e
  | some r =>
    rw [z] at e
    cases e
    exact ⟨Q, ⟨M0, H0, ρ, d, R, ed, fun v H1 s1 r1 => ⟨M0, H0, ρ, r, R.mono s1, z, fun vs H2 s2 r2 => q _ H2 (s1.trans s2) (.cons (r1.mono (.of s2)) r2)⟩⟩, fun _ _ z => z⟩
def eTup (g : Rho → Option (List D)) : EF := fun ρ => (g ρ).bind fun ds => if ds.length ≤ sizeLine then some (.tuple ds) else none
def eLst (g : Rho → Option (List D)) : EF := fun ρ => (g ρ).bind fun ds => if ds.length ≤ sizeLine then some (.list ds) else none
theorem dE_tup {es : List Expr} {x1 : Nat} {pos : Pos} {g : Rho → Option (List D)} {μ : Bool} (h : PA X es (tA μ g)) : PE X (.Tuple es x1 pos) (tD μ (eTup g)) := (pe_tupF h).wk fun σ H Q q => by
  obtain ⟨M0, H0, ρ, d, R, e, q⟩ := q
  obtain ⟨ds, ed, e⟩ := some_bind e
  obtain ⟨l, rfl⟩ := iteS e
  exact ⟨M0, H0, ρ, ds, R, ed, fun vs H1 s1 r1 => ⟨by rw [r1.len]; exact l, fun p H2 np s2 t => q _ H2 (s1.trans s2) (.tup t ((R.mono s1).domu μ |>.not np) (by rw [r1.len]; exact l) (r1.mono (.of s2)))⟩⟩
theorem dE_lst {es : List Expr} {pos : Pos} {g : Rho → Option (List D)} {μ : Bool} (h : PA X es (tA μ g)) : PE X (.List es pos) (tD μ (eLst g)) := (pe_lst h).wk fun σ H Q q => by
  obtain ⟨M0, H0, ρ, d, R, e, q⟩ := q
  obtain ⟨ds, ed, e⟩ := some_bind e
  obtain ⟨l, rfl⟩ := iteS e
  exact ⟨M0, H0, ρ, ds, R, ed, fun vs H1 s1 r1 => ⟨by rw [r1.len]; exact l, fun p np => q _ _ (s1.trans (smN np)) (.lst upd_same ((R.mono s1).domu μ |>.not np) (by rw [r1.len]; exact l) (r1.mono (.of (smN np))))⟩⟩
def ixD : D → D → Option D
  | .tuple ds, .int i => atI ds i
  | .list ds, .int i => atI ds i
  | _, _ => none
theorem RpAll.atI {M : Addr → Prop} {H : Hp} {vs : List V} {ds : List D} {i : Int} {d : D} (h : RpAll M H vs ds) (e : L2.atI ds i = some d) : ∃ v, L2.atI vs i = some v ∧ Rp M H v d := by
  unfold L2.atI at e ⊢
  rw [h.len]
  obtain ⟨j, ej, e⟩ := some_bind e
  obtain ⟨v, a, b⟩ := h.get e
  exact ⟨v, by rw [ej]; exact a, b⟩
theorem i_ix : IxR X (rD ixD) := by
  intro ve sl pn s σ H x y v u Q I rx ry h hs
  obtain ⟨M, a, b, d, dm, ra, rb, e, q⟩ := h
  cases ra <;> cases rb <;> try (cases e; done)
  · rename_i t n l r i
    obtain ⟨w, ew, rw⟩ := r.atI (show L2.atI _ _ = some d from e)
    exact ix_tup ve sl pn s σ H _ _ v u Q I rx ry ⟨_, _, i, w, rfl, rfl, t.sq, ew, q w H (Same.refl _) rw⟩ hs
  · rename_i t n l r i
    obtain ⟨w, ew, rw⟩ := r.atI (show L2.atI _ _ = some d from e)
    exact ix_list ve sl pn s σ H _ _ v u Q I rx ry ⟨_, _, i, w, rfl, rfl, SqL.of t, ew, q w H (Same.refl _) rw⟩ hs
theorem dE_ix {a b : Expr} {pos : Pos} {f1 f2 : EF} {μ : Bool} (ha : PE X a (tD μ f1)) (hb : PE X b (tD μ f2)) (hp : PlainIx b := by exact fun _ _ => rfl) : PE X (.Subscript a b pos) (tD μ (e2 ixD f1 f2)) := (pe_ix i_ix ha hb hp).wk fun _ _ _ q => dOp2 q
/-- slices -/
def cutD {α : Type} (xs : List α) (lo hi : Option Int) : List α := (xs.drop (HT.sIx xs.length 0 lo)).take (HT.sIx xs.length xs.length hi - HT.sIx xs.length 0 lo)
def slD : D → Option Int → Option Int → Option D
  | .tuple ds, lo, hi => some (.tuple (cutD ds lo hi))
  | .list ds, lo, hi => some (.list (cutD ds lo hi))
  | _, _, _ => none
theorem RpAll.cut {M : Addr → Prop} {H : Hp} {vs : List V} {ds : List D} (h : RpAll M H vs ds) (lo hi : Option Int) : RpAll M H (cutV vs lo hi) (cutD ds lo hi) := by
  unfold cutV cutD
  rw [h.len]
  exact (h.drop _).take _
def rSlD : V → Option Int → Option Int → Hp → VK → Prop := fun x lo hi H Q => ∃ M a d, Dom M H ∧ Rp M H x a ∧ slD a lo hi = some d ∧ ∀ v H', Same H H' → Rp M H' v d → Q v H'
theorem s_sl : SlR X rSlD := by
  intro pn s σ H x v vl vu lo hi sl Q I rx hs pl pu h
  obtain ⟨M, a, d, dm, ra, e, q⟩ := h
  cases ra <;> try (cases e; done)
  · rename_i a t n l r
    cases e
    refine sl_tupF pn s σ H _ v vl vu lo hi sl Q I rx hs pl pu ⟨_, _, rfl, t, fun p H' hp sm t' => q _ H' sm (.tup t' (fun m => ?_) (Nat.le_trans (cutV_length _ _ _) l) ((r.mono (.of sm)).cut _ _))⟩
    rcases hp with hp | hp
    · exact dm p m hp
    · rw [hp] at m; exact n m
  · rename_i a t n l r
    cases e
    exact sl_list pn s σ H _ v vl vu lo hi sl Q I rx hs pl pu ⟨_, _, rfl, SqL.of t, fun p hp => q _ _ (smN hp) (.lst upd_same (fun m => dm p m hp) (Nat.le_trans (cutV_length _ _ _) l) ((r.mono (.of (smN hp))).cut _ _))⟩
def tPo (f : Rho → Option (Option Int)) : TO := fun σ H Q => ∃ M0 H0 ρ o, Rs M0 H0 H σ ρ ∧ f ρ = some o ∧ ∀ H', Same H H' → Q o H'
def pNone : Rho → Option (Option Int) := fun _ => some none
def pSome (f : EF) : Rho → Option (Option Int) := fun ρ => (f ρ).bind fun d => match d with | .int i => some (some i) | _ => none
theorem _root_.L2.PO.wk {e : Option Expr} {t t' : TO} (h : PO X e t) (m : ∀ σ H Q, t' σ H Q → t σ H Q) : PO X e t' := ⟨fun pn s σ H Q I q => h.run pn s σ H Q I (m _ _ _ q)⟩
theorem dO_none : PO X none (tPo pNone) := po_none.wk fun σ H Q q => by
  obtain ⟨M0, H0, ρ, o, R, e, q⟩ := q
  cases e
  exact q _ (Same.refl _)
theorem dO_some {e : Expr} {f : EF} {μ : Bool} (h : PE X e (tD μ f)) : PO X (some e) (tPo (pSome f)) := (po_some h).wk fun σ H Q q => by
  obtain ⟨M0, H0, ρ, o, R, e, q⟩ := q
  obtain ⟨d, ed, e⟩ := some_bind e
  refine ⟨M0, H0, ρ, d, R, ed, fun v H1 s1 r1 => ?_⟩
  cases r1 <;> cases e
  exact ⟨_, rfl, q _ s1⟩
def eSl (f : EF) (lo hi : Rho → Option (Option Int)) : EF := fun ρ => (f ρ).bind fun d => (lo ρ).bind fun l => (hi ρ).bind fun h => slD d l h
theorem dE_sl {e : Expr} {lo hi : Option Expr} {pos p2 : Pos} {f : EF} {g h : Rho → Option (Option Int)} {μ : Bool} (he : PE X e (tD μ f)) (hl : PO X lo (tPo g)) (hh : PO X hi (tPo h)) : PE X (.Subscript e (.Slice lo hi none p2) pos) (tD μ (eSl f g h)) := (pe_slice s_sl he hl hh).wk fun σ H Q q => by
  obtain ⟨M0, H0, ρ, d, R, e, q⟩ := q
  obtain ⟨d1, e1, e⟩ := some_bind e
  obtain ⟨l, el, e⟩ := some_bind e
  obtain ⟨u, eu, e⟩ := some_bind e
  exact ⟨M0, H0, ρ, d1, R, e1, fun v H1 s1 r1 => ⟨M0, H0, ρ, l, R.mono s1, el, fun H2 s2 => ⟨M0, H0, ρ, u, R.mono (s1.trans s2), eu, fun H3 s3 => ⟨_, d1, d, (R.mono ((s1.trans s2).trans s3)).domu μ, r1.mono (.of (s2.trans s3)), e, fun v H4 s4 r4 => q v H4 (((s1.trans s2).trans s3).trans s4) r4⟩⟩⟩⟩
/-! calls -/
def rC (g : List D → Option D) : List V → Hp → VK → Prop := fun xs H Q => ∃ M ds d, Dom M H ∧ RpAll M H xs ds ∧ g ds = some d ∧ ∀ v H', Same H H' → Rp M H' v d → Q v H'
def eCall (g : List D → Option D) (f : Rho → Option (List D)) : EF := fun ρ => (f ρ).bind g
theorem dCall {g : List D → Option D} {f : Rho → Option (List D)} {μ : Bool} {σ : L2.St} {H : Hp} {Q : VK} (q : tD μ (eCall g f) σ H Q) : tCB (rC g) (tA μ f) σ H Q := by
  obtain ⟨M0, H0, ρ, d, R, e, q⟩ := q
  obtain ⟨ds, ed, e⟩ := some_bind e
  exact ⟨M0, H0, ρ, ds, R, ed, fun vs H1 s1 r1 => ⟨_, ds, d, (R.mono s1).domu μ, r1, e, fun v H2 s2 r2 => q v H2 (s1.trans s2) r2⟩⟩
def spD (n : Nat) (g : List D → Option D) : Sp := fun vs H Q _ => ∃ M ds d, Dom M H ∧ RpAll M H vs ds ∧ ds.length = n ∧ g ds = some d ∧ ∀ v H', Same H H' → Rp M H' v d → Q v H'
def gN (n : Nat) (g : List D → Option D) : List D → Option D := fun ds => if ds.length = n then g ds else none
theorem dE_cl {k n : Nat} {x : Str} {ps : List Str} {g : List D → Option D} {p pos : Pos} {e : Expr} {es : List Expr} {f : Rho → Option (List D)} {μ : Bool} (C : Cl X.prog X.w X.K X.mg X.base k x ps (spD n g)) (hr : Room k X.A) (hg : Gl X x) (ha : PA X (e :: es) (tA μ f))
    (hdb : (x == ("__debug__" : Str)) = false := by decide) (he : starEach (e :: es) X.env = (false, eval e X.env) :: starEach es X.env := by rfl) (hpl : (backTo pos (starEach es X.env)).any (·.1) = false := by rfl) :
    PE X (.Call (.Name x p) (e :: es) [] pos) (tD μ (eCall (gN n g) f)) := (pe_cl C hr hg ha hdb he hpl).wk fun σ H Q q => by
  obtain ⟨M0, H0, ρ, d, R, e, q⟩ := q
  obtain ⟨ds, ed, e⟩ := some_bind e
  refine ⟨M0, H0, ρ, ds, R, ed, fun vs H1 s1 r1 => ?_⟩
  unfold gN at e
  split at e
  · rename_i l
    rw [List.append_nil]
    exact ⟨_, ds, d, (R.mono s1).domu μ, r1, l, e, fun v H2 s2 r2 => q v H2 (s1.trans s2) r2⟩
  · cases e
end
end Dl
namespace Dl
open PySem PySem.Spec PyProof.Rows L2 Rt
/-! ### targets -/
mutual
inductive Pat
  | nm (i : Nat)
  | tp (ps : Pats)
inductive Pats
  | nil
  | cons (p : Pat) (ps : Pats)
end
def Pats.len : Pats → Nat
  | .nil => 0
  | .cons _ ps => ps.len + 1
mutual
def gP (K : PySem.W.Frag) : Pat → TG
  | .nm i => gName i
  | .tp ps => gTup K ps.len (gPs K ps)
def gPs (K : PySem.W.Frag) : Pats → TGs
  | .nil => gNil
  | .cons p ps => gCons (gP K p) (gPs K ps)
end
mutual
def bindP : Pat → D → Rho → Option Rho
  | .nm i, d, ρ => if i < ρ.length then some (ρ.set i (some (.dat d))) else none
  | .tp ps, .tuple ds, ρ => bindPs ps ds ρ
  | .tp _, _, _ => none
def bindPs : Pats → List D → Rho → Option Rho
  | .nil, [], ρ => some ρ
  | .cons p ps, d :: ds, ρ => (bindP p d ρ).bind fun ρ1 => bindPs ps ds ρ1
  | _, _, _ => none
end
mutual
def slP : Pat → List Nat
  | .nm i => [i]
  | .tp ps => slPs ps
def slPs : Pats → List Nat
  | .nil => []
  | .cons p ps => slP p ++ slPs ps
end
theorem set_get {α : Type} {xs : List α} {i j : Nat} {x y : α} (h : (xs.set i x)[j]? = some y) : (i = j ∧ y = x) ∨ (i ≠ j ∧ xs[j]? = some y) := by
  rw [List.getElem?_set] at h
  by_cases e : i = j
  · rw [if_pos e] at h
    split at h
    · cases h; exact .inl ⟨e, rfl⟩
    · cases h
  · rw [if_neg e] at h; exact .inr ⟨e, h⟩
theorem set_same {α : Type} {xs : List α} {i : Nat} {x : α} (h : i < xs.length) : (xs.set i x)[i]? = some x := by
  rw [List.getElem?_set, if_pos rfl, if_pos h]
theorem set_other {α : Type} {xs : List α} {i j : Nat} {x : α} (h : i ≠ j) : (xs.set i x)[j]? = xs[j]? := by
  rw [List.getElem?_set, if_neg h]
theorem Mu.shrink {M0 : Addr → Prop} {σ : L2.St} {ρ : Rho} {i : Nat} {w : Option V} {lv : Option LV} (h : ∀ ds, lv ≠ some (.own ds)) : ∀ a, Mu true M0 (σ.set i w) (ρ.set i lv) a → Mu true M0 σ ρ a := fun a m => by
  rcases m with m | ⟨_, j, ds, e1, e2⟩
  · exact .inl m
  · rcases set_get e1 with ⟨_, e⟩ | ⟨n, e⟩
    · exact (h ds e.symm).elim
    · rw [set_other n] at e2
      exact .inr ⟨rfl, j, ds, e, e2⟩
theorem Rs.set {M0 : Addr → Prop} {H0 H : Hp} {σ : L2.St} {ρ : Rho} {i : Nat} {v : V} {d : D} (R : Rs M0 H0 H σ ρ) (r : Rp (Mu true M0 σ ρ) H v d) : Rs M0 H0 H (σ.set i (some v)) (ρ.set i (some (.dat d))) := by
  have sh : ∀ a, Mu true M0 (σ.set i (some v)) (ρ.set i (some (.dat d))) a → Mu true M0 σ ρ a ∨ H a = none := fun a m => .inl (Mu.shrink (fun ds e => by cases e) a m)
  refine ⟨R.sm, R.dom, by rw [List.length_set, List.length_set]; exact R.len, fun j d' e => ?_, fun j ds e => ?_, fun j w e => ?_, fun j k a b p e1 e2 e3 e4 => ?_⟩
  · rcases set_get e with ⟨rfl, e9⟩ | ⟨n, e⟩
    · cases e9
      have hl : i < ρ.length := by
        have := (List.getElem?_eq_some_iff.mp (by assumption : (ρ.set i _)[i]? = _)).1
        rwa [List.length_set] at this
      exact ⟨v, set_same (by rw [← R.len]; exact hl), r.reM sh⟩
    · obtain ⟨w, x, y⟩ := R.dat j d' e
      exact ⟨w, by rw [set_other n]; exact x, y.reM sh⟩
  · rcases set_get e with ⟨rfl, e9⟩ | ⟨n, e⟩
    · cases e9
    · obtain ⟨p, vs, x, y, z, l, w⟩ := R.own j ds e
      exact ⟨p, vs, by rw [set_other n]; exact x, y, z, l, w.reM sh⟩
  · rcases set_get e with ⟨rfl, e9⟩ | ⟨n, e⟩
    · cases e9
    · rw [set_other n]; exact R.raw j w e
  · rcases set_get e1 with ⟨rfl, e⟩ | ⟨n1, f1⟩
    · cases e
    rcases set_get e2 with ⟨rfl, e⟩ | ⟨n2, f2⟩
    · cases e
    rw [set_other n1] at e3
    rw [set_other n2] at e4
    exact R.inj j k a b p f1 f2 e3 e4
theorem Rs.clear {M0 : Addr → Prop} {H0 H : Hp} {σ : L2.St} {ρ : Rho} (i : Nat) (w : Option V) (R : Rs M0 H0 H σ ρ) : Rs M0 H0 H (σ.set i w) (ρ.set i none) := by
  have sh : ∀ a, Mu true M0 (σ.set i w) (ρ.set i none) a → Mu true M0 σ ρ a ∨ H a = none := fun a m => .inl (Mu.shrink (fun ds e => by cases e) a m)
  refine ⟨R.sm, R.dom, by rw [List.length_set, List.length_set]; exact R.len, fun j d' e => ?_, fun j ds e => ?_, fun j w e => ?_, fun j k a b p e1 e2 e3 e4 => ?_⟩
  · rcases set_get e with ⟨rfl, e9⟩ | ⟨n, e⟩
    · cases e9
    · obtain ⟨w, x, y⟩ := R.dat j d' e
      exact ⟨w, by rw [set_other n]; exact x, y.reM sh⟩
  · rcases set_get e with ⟨rfl, e9⟩ | ⟨n, e⟩
    · cases e9
    · obtain ⟨p, vs, x, y, z, l, w⟩ := R.own j ds e
      exact ⟨p, vs, by rw [set_other n]; exact x, y, z, l, w.reM sh⟩
  · rcases set_get e with ⟨rfl, e9⟩ | ⟨n, e⟩
    · cases e9
    · rw [set_other n]; exact R.raw j w e
  · rcases set_get e1 with ⟨rfl, e⟩ | ⟨n1, f1⟩
    · cases e
    rcases set_get e2 with ⟨rfl, e⟩ | ⟨n2, f2⟩
    · cases e
    rw [set_other n1] at e3
    rw [set_other n2] at e4
    exact R.inj j k a b p f1 f2 e3 e4
/-- an item of a walk: data, or a pair just made of data -/
def RpI (pr : Bool) (M : Addr → Prop) (H : Hp) (v : V) (d : D) : Prop := Rp M H v d ∨ (pr = true ∧ ∃ a xs ds, v = .ref a ∧ d = .tuple ds ∧ H a = some (.tup xs) ∧ RpAll M H xs ds)
def Pat.fits (pr : Bool) : Pat → Bool
  | .nm _ => !pr
  | .tp _ => true
structure Bnd (M0 : Addr → Prop) (σ : L2.St) (ρ : Rho) (sl : List Nat) (σ' : L2.St) (ρ' : Rho) : Prop where
  oth : ∀ j, j ∉ sl → σ'[j]? = σ[j]?
  len : σ'.length = σ.length
  mu : ∀ a, Mu true M0 σ' ρ' a → Mu true M0 σ ρ a
mutual
theorem bindP.ok {K : PySem.W.Frag} {M0 : Addr → Prop} {H0 H : Hp} : ∀ {p : Pat} {σ : L2.St} {ρ ρ' : Rho} {v : V} {d : D} {Q : L2.St → Hp → Prop} {pr : Bool}, Rs M0 H0 H σ ρ → RpI pr (Mu true M0 σ ρ) H v d → p.fits pr = true → bindP p d ρ = some ρ' →
    (∀ σ', Rs M0 H0 H σ' ρ' → Bnd M0 σ ρ (slP p) σ' ρ' → Q σ' H) → gP K p v σ H Q
  | .nm i, σ, ρ, ρ', v, d, Q, pr, R, r, ft, e, q => by
    have hpr : pr = false := by cases pr <;> first | rfl | cases ft
    subst hpr
    have r : Rp (Mu true M0 σ ρ) H v d := by
      rcases r with r | ⟨z, _⟩
      · exact r
      · cases z
    unfold bindP at e
    obtain ⟨l, rfl⟩ := iteS e
    refine q _ (R.set r) ⟨fun j hj => set_other fun z => hj (by rw [z]; exact List.mem_singleton.mpr rfl), List.length_set .., Mu.shrink fun ds e => by cases e⟩
  | .tp ps, σ, ρ, ρ', v, d, Q, pr, R, r, ft, e, q => by
    rcases r with r | ⟨_, a, xs, ds, rfl, rfl, t, r⟩
    · cases r <;> try (cases e; done)
      rename_i xs ds t n l r
      have hl := bindPs.len (show bindPs ps ds ρ = some ρ' from e)
      exact ⟨_, xs, rfl, t.sq, by rw [r.len]; exact hl, bindPs.ok R r e q⟩
    · have hl := bindPs.len (show bindPs ps ds ρ = some ρ' from e)
      exact ⟨_, xs, rfl, SqT.of t, by rw [r.len]; exact hl, bindPs.ok R r e q⟩
theorem bindPs.ok {K : PySem.W.Frag} {M0 : Addr → Prop} {H0 H : Hp} : ∀ {ps : Pats} {σ : L2.St} {ρ ρ' : Rho} {vs : List V} {ds : List D} {Q : L2.St → Hp → Prop}, Rs M0 H0 H σ ρ → RpAll (Mu true M0 σ ρ) H vs ds → bindPs ps ds ρ = some ρ' →
    (∀ σ', Rs M0 H0 H σ' ρ' → Bnd M0 σ ρ (slPs ps) σ' ρ' → Q σ' H) → gPs K ps vs σ H Q
  | .nil, σ, ρ, ρ', vs, ds, Q, R, r, e, q => by
    cases r with
    | nil => cases e; exact ⟨rfl, q σ R ⟨fun _ _ => rfl, rfl, fun a m => m⟩⟩
    | cons h t => cases e
  | .cons p ps, σ, ρ, ρ', vs, ds, Q, R, r, e, q => by
    cases r with
    | nil => cases e
    | cons h t =>
      unfold bindPs at e
      obtain ⟨ρ1, e1, e⟩ := some_bind e
      refine ⟨_, _, rfl, bindP.ok (pr := false) R (.inl h) (by cases p <;> rfl) e1 fun σ1 R1 B1 => ?_⟩
      refine bindPs.ok R1 (t.reM fun a m => .inl (B1.mu a m)) e fun σ2 R2 B2 => q σ2 R2 ⟨fun j hj => ?_, B2.len.trans B1.len, fun a m => B1.mu a (B2.mu a m)⟩
      have hj : j ∉ slP p ++ slPs ps := hj
      rw [List.mem_append, not_or] at hj
      rw [B2.oth j hj.2, B1.oth j hj.1]
theorem bindPs.len : ∀ {ps : Pats} {ds : List D} {ρ ρ' : Rho}, bindPs ps ds ρ = some ρ' → ds.length = ps.len
  | .nil, [], _, _, _ => rfl
  | .nil, _ :: _, _, _, e => nomatch e
  | .cons _ _, [], _, _, e => nomatch e
  | .cons p ps, d :: ds, ρ, ρ', e => by
    unfold bindPs at e
    obtain ⟨ρ1, e1, e⟩ := some_bind e
    exact congrArg (· + 1) (bindPs.len e)
end
/-! ### walks -/
structure DW (pr : Bool) (M : Addr → Prop) (H1 : Hp) (J : It) (items : List D) : Prop where
  ex : ∃ G Y, Walk J items.length G Y ∧ (∀ H2, KpM M H1 H2 → G H2) ∧ ∀ i v Ha Hb, KpM M H1 Ha → Y i Ha v Hb → ∃ d, items[i]? = some d ∧ Same Ha Hb ∧ RpI pr M Hb v d
  sz : items.length ≤ sizeLine
def iD (μ pr : Bool) (it : Rho → Option (List D)) : TI := fun σ H R => ∃ M0 H0 ρ items, Rs M0 H0 H σ ρ ∧ it ρ = some items ∧ ∀ J H', Same H H' → (∀ M', (∀ a, M' a → Mu μ M0 σ ρ a ∨ H' a = none) → DW pr M' H' J items) → R J H'
def seqD : D → Option (List D)
  | .tuple ds => some ds
  | .list ds => some ds
  | _ => none
def itSeq (f : EF) : Rho → Option (List D) := fun ρ => (f ρ).bind seqD
theorem DW.tup {K : PySem.W.Frag} {M : Addr → Prop} {H : Hp} {a : Addr} {xs : List V} {ds : List D} (t : TupF H a xs) (n : ¬ M a) (l : xs.length ≤ sizeLine) (r : RpAll M H xs ds) : DW false M H (Itt K a) ds := by
  obtain ⟨o, e, z⟩ := t
  refine ⟨⟨fun H => SqT K H a xs, YAt xs, by rw [← r.len]; exact walk_tup, fun H2 k => TupF.sq ⟨o, k _ _ n e, z⟩, fun i v Ha Hb k y => ?_⟩, by rw [← r.len]; exact l⟩
  obtain ⟨rfl, y⟩ := y
  obtain ⟨d, e1, e2⟩ := (r.mono k).getV y
  exact ⟨d, e1, Same.refl _, .inl e2⟩
theorem DW.lst {K : PySem.W.Frag} {M : Addr → Prop} {H : Hp} {a : Addr} {xs : List V} {ds : List D} (t : H a = some (.lst xs)) (n : ¬ M a) (l : xs.length ≤ sizeLine) (r : RpAll M H xs ds) : DW false M H (Itl K a) ds := by
  refine ⟨⟨fun H => SqL K H a xs, YAt xs, by rw [← r.len]; exact walk_list, fun H2 k => SqL.of (k _ _ n t), fun i v Ha Hb k y => ?_⟩, by rw [← r.len]; exact l⟩
  obtain ⟨rfl, y⟩ := y
  obtain ⟨d, e1, e2⟩ := (r.mono k).getV y
  exact ⟨d, e1, Same.refl _, .inl e2⟩
theorem nM {M M' : Addr → Prop} {H : Hp} {a : Addr} {o : HO} (hM : ∀ a, M' a → M a ∨ H a = none) (n : ¬ M a) (e : H a = some o) : ¬ M' a := fun m => (hM _ m).elim n fun z => by rw [z] at e; cases e
theorem nMT {M M' : Addr → Prop} {H : Hp} {a : Addr} {xs : List V} (hM : ∀ a, M' a → M a ∨ H a = none) (n : ¬ M a) (e : TupF H a xs) : ¬ M' a := by
  obtain ⟨o, e, _⟩ := e
  exact nM hM n e
section
variable {X : Cx}
theorem dI_seq {tg e : Expr} {f : EF} {μ : Bool} (h : PE X e (tD μ f)) : PI X tg e (iD μ false (itSeq f)) := ⟨fun pn s σ H R I q => by
  obtain ⟨M0, H0, ρ, items, Rr, e, q⟩ := q
  obtain ⟨d, ed, e⟩ := some_bind e
  cases d <;> try (cases e; done)
  · cases e
    refine (pi_list (tg := tg) h).run pn s σ H R I ⟨M0, H0, ρ, _, Rr, ed, fun v H1 s1 r1 => ?_⟩
    cases r1 with
    | lst t n l r => exact ⟨_, rfl, ⟨_, SqL.of t⟩, q _ _ s1 fun M' hM => DW.lst t (nM hM n t) l (r.reM hM)⟩
  · cases e
    refine (pi_tup (tg := tg) h).run pn s σ H R I ⟨M0, H0, ρ, _, Rr, ed, fun v H1 s1 r1 => ?_⟩
    cases r1 with
    | tup t n l r => exact ⟨_, rfl, ⟨_, t.sq⟩, q _ _ s1 fun M' hM => DW.tup t (nMT hM n t) l (r.reM hM)⟩⟩
def rgD (lo : Int) (n : Nat) : List D := (List.range n).map fun (i : Nat) => PyData.int (lo + (i : Int))
def ran1D : List D → Option (List D)
  | [.int j] => if -(2 ^ 62) ≤ j ∧ j < 2 ^ 20 then some (rgD 0 j.toNat) else none
  | _ => none
def ran2D : List D → Option (List D)
  | [.int i, .int j] => if -(2 ^ 62) ≤ i ∧ i < 2 ^ 62 ∧ -(2 ^ 62) ≤ j ∧ j < 2 ^ 62 ∧ j - i < 2 ^ 20 then some (rgD i (j - i).toNat) else none
  | _ => none
def itG (g : List D → Option (List D)) (f : Rho → Option (List D)) : Rho → Option (List D) := fun ρ => (f ρ).bind g
theorem szR {n : Nat} (h : n ≤ 2 ^ 20) : n ≤ sizeLine := Nat.le_trans h (by decide)
theorem DW.rng {M : Addr → Prop} {H : Hp} {lo : Int} {n : Nat} (l : n ≤ sizeLine) : DW false M H (Itr lo n) (rgD lo n) := by
  have hl : (rgD lo n).length = n := by unfold rgD; rw [List.length_map, List.length_range]
  refine ⟨⟨fun _ => True, fun i H x H' => i < n ∧ YFn (fun i => V.int (lo + i)) i H x H', ?_, fun _ _ => trivial, fun i v Ha Hb k y => ?_⟩, by rw [hl]; exact l⟩
  · rw [hl]
    exact ⟨walk_range.goes, walk_range.stops, fun i H x H' hi g y => ⟨hi, walk_range.yields i H x H' hi g y⟩⟩
  · obtain ⟨hi, rfl, rfl⟩ := y
    refine ⟨.int (lo + i), ?_, Same.refl _, .inl (.int _)⟩
    unfold rgD
    rw [List.getElem?_map, List.getElem?_range hi]
    rfl
theorem dI_ran1 {tg a : Expr} {p pos : Pos} {f : Rho → Option (List D)} {μ : Bool} (hg : Gl X "range") (hm : X.mg "range" = none) (ha : PA X [a] (tA μ f)) (hs : starEach [a] X.env = [(false, eval a X.env)] := by rfl) : PI X tg (.Call (.Name "range" p) [a] [] pos) (iD μ false (itG ran1D f)) := (pi_range1 hg hm ha hs).wk fun σ H R q => by
  obtain ⟨M0, H0, ρ, items, Rr, e, q⟩ := q
  obtain ⟨ds, ed, e⟩ := some_bind e
  refine ⟨M0, H0, ρ, ds, Rr, ed, fun vs H1 s1 r1 => ?_⟩
  cases r1 with
  | nil => cases e
  | cons h t =>
    cases t with
    | nil =>
      cases h <;> try (cases e; done)
      obtain ⟨l, rfl⟩ := iteS e
      exact ⟨_, rfl, l.1, by omega, q _ _ s1 fun M' hM => DW.rng (szR (by omega))⟩
    | cons h2 t => cases h <;> cases e
theorem dI_ran2 {tg a b : Expr} {p pos : Pos} {f : Rho → Option (List D)} {μ : Bool} (hg : Gl X "range") (hm : X.mg "range" = none) (ha : PA X [a, b] (tA μ f)) (hs : starEach [a, b] X.env = [(false, eval a X.env), (false, eval b X.env)] := by rfl) (hs2 : starEach [b] X.env = [(false, eval b X.env)] := by rfl) : PI X tg (.Call (.Name "range" p) [a, b] [] pos) (iD μ false (itG ran2D f)) := (pi_range2 hg hm ha hs hs2).wk fun σ H R q => by
  obtain ⟨M0, H0, ρ, items, Rr, e, q⟩ := q
  obtain ⟨ds, ed, e⟩ := some_bind e
  refine ⟨M0, H0, ρ, ds, Rr, ed, fun vs H1 s1 r1 => ?_⟩
  cases r1 with
  | nil => cases e
  | cons h t =>
    cases t with
    | nil => cases h <;> cases e
    | cons h2 t =>
      cases t with
      | cons h3 t => cases h <;> cases h2 <;> cases e
      | nil =>
        cases h <;> cases h2 <;> try (cases e; done)
        obtain ⟨l, rfl⟩ := iteS e
        exact ⟨_, _, rfl, ⟨l.1, l.2.1, l.2.2.1, l.2.2.2.1⟩, q _ _ s1 fun M' hM => DW.rng (szR (by omega))⟩
def enGo : Nat → List D → List D
  | _, [] => []
  | i, d :: ds => .tuple [.int (i : Int), d] :: enGo (i + 1) ds
theorem enGo.len : ∀ (i : Nat) (ds : List D), (enGo i ds).length = ds.length
  | _, [] => rfl
  | i, d :: ds => congrArg (· + 1) (enGo.len (i + 1) ds)
theorem enGo.get : ∀ (i : Nat) (ds : List D) (j : Nat) (d : D), ds[j]? = some d → (enGo i ds)[j]? = some (.tuple [.int ((i + j : Nat) : Int), d])
  | _, [], _, _, e => nomatch e
  | i, d :: ds, 0, _, e => by cases e; rfl
  | i, d :: ds, j + 1, _, e => by
    have := enGo.get (i + 1) ds j _ e
    rw [show i + (j + 1) = i + 1 + j by omega]
    exact this
def enD : List D → Option (List D)
  | [.tuple ds] => some (enGo 0 ds)
  | [.list ds] => some (enGo 0 ds)
  | _ => none
theorem DW.pair {M : Addr → Prop} {H : Hp} {J : It} {n : Nat} {G : Hp → Prop} {fx fy : Nat → Option V} {items : List D} (W : Walk J n G (YPair fx fy)) (hn : n = items.length) (sz : n ≤ sizeLine) (hG : ∀ H2, KpM M H H2 → G H2)
    (hy : ∀ i x y Ha, KpM M H Ha → fx i = some x → fy i = some y → ∃ a b, items[i]? = some (.tuple [a, b]) ∧ Rp M Ha x a ∧ Rp M Ha y b) : DW true M H J items := by
  subst hn
  refine ⟨⟨G, YPair fx fy, W, hG, fun i v Ha Hb k y => ?_⟩, sz⟩
  obtain ⟨T, x, y, rfl, nT, rfl, ex, ey⟩ := y
  obtain ⟨a, b, e, ra, rb⟩ := hy i x y Ha k ex ey
  exact ⟨_, e, smN nT, .inr ⟨rfl, T, _, _, rfl, rfl, upd_same, .cons (ra.mono (.of (smN nT))) (.cons (rb.mono (.of (smN nT))) .nil)⟩⟩
theorem dI_enum {e : Expr} {p pos tpos : Pos} {elts : List Expr} {kk : Nat} {f : Rho → Option (List D)} {μ : Bool} (hg : Gl X "enumerate") (hm : X.mg "enumerate" = none) (ha : PA X [e] (tA μ f)) (hs : starEach [e] X.env = [(false, eval e X.env)] := by rfl) : PI X (.Tuple elts kk tpos) (.Call (.Name "enumerate" p) [e] [] pos) (iD μ true (itG enD f)) := ⟨fun pn s σ H R I q => by
  obtain ⟨M0, H0, ρ, items, Rr, e, q⟩ := q
  obtain ⟨ds, ed, e⟩ := some_bind e
  match ds, e with
  | [.list ds], e =>
    cases e
    refine (pi_enum hg hm ha hs).run pn s σ H R I ⟨M0, H0, ρ, _, Rr, ed, fun vs H1 s1 r1 => ?_⟩
    cases r1 with
    | cons h t =>
      cases t
      cases h with
      | lst t n l r =>
        refine ⟨_, _, rfl, SqL.of t, q _ _ s1 fun M' hM => DW.pair walk_enum (by rw [enGo.len, r.len]) l (fun H2 k => SqL.of (k _ _ (nM hM n t) t)) fun i x y Ha k ex ey => ?_⟩
        cases ex
        obtain ⟨d, e1, e2⟩ := ((r.reM hM).mono k).getV ey
        exact ⟨_, d, by rw [enGo.get 0 _ _ _ e1, Nat.zero_add], .int _, e2⟩
  | [.tuple ds], e =>
    cases e
    refine (pi_enumT hg hm ha hs).run pn s σ H R I ⟨M0, H0, ρ, _, Rr, ed, fun vs H1 s1 r1 => ?_⟩
    cases r1 with
    | cons h t =>
      cases t
      cases h with
      | tup t n l r =>
        refine ⟨_, _, rfl, t.sq, q _ _ s1 fun M' hM => DW.pair walk_enumT (by rw [enGo.len, r.len]) l (fun H2 k => ?_) fun i x y Ha k ex ey => ?_⟩
        · have n := nMT hM n t
          obtain ⟨o, e, z⟩ := t
          exact TupF.sq ⟨o, k _ _ n e, z⟩
        cases ex
        obtain ⟨d, e1, e2⟩ := ((r.reM hM).mono k).getV ey
        exact ⟨_, d, by rw [enGo.get 0 _ _ _ e1, Nat.zero_add], .int _, e2⟩⟩
def zpGo : List D → List D → List D
  | a :: as, b :: bs => .tuple [a, b] :: zpGo as bs
  | _, _ => []
theorem zpGo.len : ∀ (as bs : List D), (zpGo as bs).length = min as.length bs.length
  | [], bs => by cases bs <;> rfl
  | a :: as, [] => rfl
  | a :: as, b :: bs => by
    show (zpGo as bs).length + 1 = min (as.length + 1) (bs.length + 1)
    rw [zpGo.len as bs]
    omega
theorem zpGo.get : ∀ (as bs : List D) (j : Nat) (a b : D), as[j]? = some a → bs[j]? = some b → (zpGo as bs)[j]? = some (.tuple [a, b])
  | [], _, _, _, _, e, _ => nomatch e
  | _ :: _, [], _, _, _, _, e => nomatch e
  | a :: as, b :: bs, 0, _, _, e, f => by cases e; cases f; rfl
  | a :: as, b :: bs, j + 1, _, _, e, f => zpGo.get as bs j _ _ e f
def zpD : List D → Option (List D)
  | [.tuple a, .tuple b] => some (zpGo a b)
  | [.list a, .list b] => some (zpGo a b)
  | _ => none
theorem walk_zipX {K : PySem.W.Frag} {a b : Addr} {xs ys : List V} : Walk (RZ.ItzT K a b) (min xs.length ys.length) (fun H => SqT K H a xs ∧ SqT K H b ys) (YPair (fun i => xs[i]?) (fun i => ys[i]?)) := by
  refine ⟨fun i H hi z => ?_, fun H z => ⟨xs, ys, z.1, z.2, by omega⟩, fun i H v H' hi z y => ?_⟩
  · have h1 : i < xs.length := by omega
    have h2 : i < ys.length := by omega
    exact ⟨xs, ys, xs[i], ys[i], z.1, z.2, by simp [h1], by simp [h2]⟩
  · obtain ⟨T, x, u, h1, h2, h3, h4, h5⟩ := y
    exact ⟨T, x, u, h1, h2, h3, h4 xs z.1, h5 ys z.2⟩
theorem walk_zipY {K : PySem.W.Frag} {a b : Addr} {xs ys : List V} : Walk (L2.Itz K a b) (min xs.length ys.length) (fun H => SqL K H a xs ∧ SqL K H b ys) (YPair (fun i => xs[i]?) (fun i => ys[i]?)) := by
  refine ⟨fun i H hi z => ?_, fun H z => ⟨xs, ys, z.1, z.2, by omega⟩, fun i H v H' hi z y => ?_⟩
  · have h1 : i < xs.length := by omega
    have h2 : i < ys.length := by omega
    exact ⟨xs, ys, xs[i], ys[i], z.1, z.2, by simp [h1], by simp [h2]⟩
  · obtain ⟨T, x, u, h1, h2, h3, h4, h5⟩ := y
    exact ⟨T, x, u, h1, h2, h3, h4 xs z.1, h5 ys z.2⟩
theorem dI_zip {e e2 : Expr} {p pos tpos : Pos} {elts : List Expr} {kk : Nat} {f : Rho → Option (List D)} {μ : Bool} (hg : Gl X "zip") (hm : X.mg "zip" = none) (ha : PA X [e, e2] (tA μ f)) (hs : starEach [e, e2] X.env = (false, eval e X.env) :: starEach [e2] X.env := by rfl) (hpl : (backTo pos (starEach [e2] X.env)).any (·.1) = false := by rfl) :
    PI X (.Tuple elts kk tpos) (.Call (.Name "zip" p) [e, e2] [] pos) (iD μ true (itG zpD f)) := (RZ.pi_zipA hg hm ha hs hpl).wk fun σ H R q => by
  obtain ⟨M0, H0, ρ, items, Rr, e, q⟩ := q
  obtain ⟨ds, ed, e⟩ := some_bind e
  refine ⟨M0, H0, ρ, ds, Rr, ed, fun vs H1 s1 r1 => ?_⟩
  match ds, e, r1 with
  | [.tuple a, .tuple b], e, .cons (@Rp.tup _ _ a1 xs1 _ t n l r) (.cons (@Rp.tup _ _ a2 xs2 _ t2 n2 l2 r2) .nil) =>
    cases e
    refine ⟨_, _, _, _, rfl, .inr ⟨t.sq, t2.sq, q _ _ s1 fun M' hM => DW.pair (walk_zipX (xs := xs1) (ys := xs2)) (by rw [zpGo.len, r.len, r2.len]) (by omega) (fun H2 k => ?_) fun i x y Ha k ex ey => ?_⟩⟩
    · have n := nMT hM n t
      have n2 := nMT hM n2 t2
      obtain ⟨o, e, z⟩ := t
      obtain ⟨o2, e2, z2⟩ := t2
      exact ⟨TupF.sq ⟨o, k _ _ n e, z⟩, TupF.sq ⟨o2, k _ _ n2 e2, z2⟩⟩
    · obtain ⟨d, e1, e2⟩ := ((r.reM hM).mono k).getV ex
      obtain ⟨d', e3, e4⟩ := ((r2.reM hM).mono k).getV ey
      exact ⟨d, d', zpGo.get _ _ _ _ _ e1 e3, e2, e4⟩
  | [.list a, .list b], e, .cons (@Rp.lst _ _ a1 xs1 _ t n l r) (.cons (@Rp.lst _ _ a2 xs2 _ t2 n2 l2 r2) .nil) =>
    cases e
    refine ⟨_, _, _, _, rfl, .inl ⟨SqL.of t, SqL.of t2, q _ _ s1 fun M' hM => DW.pair (walk_zipY (xs := xs1) (ys := xs2)) (by rw [zpGo.len, r.len, r2.len]) (by omega) (fun H2 k => ⟨SqL.of (k _ _ (nM hM n t) t), SqL.of (k _ _ (nM hM n2 t2) t2)⟩) fun i x y Ha k ex ey => ?_⟩⟩
    obtain ⟨d, e1, e2⟩ := ((r.reM hM).mono k).getV ex
    obtain ⟨d', e3, e4⟩ := ((r2.reM hM).mono k).getV ey
    exact ⟨d, d', zpGo.get _ _ _ _ _ e1 e3, e2, e4⟩
end
end Dl
namespace Dl
open PySem PySem.Spec PyProof.Rows L2 Rt
/-! ### comprehensions -/
def sealL (μ : Bool) : Option LV → Option LV
  | some (.own ds) => if μ = true then none else some (.dat (.list ds))
  | x => x
def shutR (μ : Bool) (ρ : Rho) : Rho := ρ.map (sealL μ)
def wipeR : Rho → List Nat → Rho
  | ρ, [] => ρ
  | ρ, v :: vs => (wipeR ρ vs).set v none
theorem wipe_get {σ : L2.St} : ∀ {vs : List Nat} {j : Nat}, j ∉ vs → (wipe σ vs)[j]? = σ[j]?
  | [], _, _ => rfl
  | v :: vs, j, h => by
    have h : j ≠ v ∧ j ∉ vs := by simpa using h
    show ((wipe σ vs).set v none)[j]? = σ[j]?
    rw [set_other h.1.symm, wipe_get h.2]
theorem wipe_len {σ : L2.St} : ∀ {vs : List Nat}, (wipe σ vs).length = σ.length
  | [] => rfl
  | v :: vs => by
    show ((wipe σ vs).set v none).length = σ.length
    rw [List.length_set, wipe_len]
theorem wipe_in {σ : L2.St} : ∀ {vs : List Nat} {j : Nat}, j ∈ vs → (wipe σ vs)[j]? = if j < σ.length then some none else none
  | v :: vs, j, h => by
    show ((wipe σ vs).set v none)[j]? = _
    by_cases e : v = j
    · subst e
      rw [List.getElem?_set, if_pos rfl, wipe_len]
    · rw [set_other e]
      refine wipe_in ?_
      rcases List.mem_cons.mp h with h | h
      · exact (e h.symm).elim
      · exact h
theorem wipe_eq {σ σ2 : L2.St} {vs sl : List Nat} (h : ∀ j, j ∉ sl → σ2[j]? = (wipe σ vs)[j]?) (hl : σ2.length = (wipe σ vs).length) (hs : ∀ j, j ∈ sl → j ∈ vs) : wipe σ2 vs = wipe σ vs := by
  rw [wipe_len] at hl
  apply List.ext_getElem?
  intro j
  by_cases hj : j ∈ vs
  · rw [wipe_in hj, wipe_in hj, hl]
  · rw [wipe_get hj, wipe_get hj, h j fun z => hj (hs j z), wipe_get hj]
theorem seal_get {μ : Bool} {ρ : Rho} {i : Nat} {x : LV} (h : (shutR μ ρ)[i]? = some (some x)) : (ρ[i]? = some (some x) ∧ ∀ ds, x ≠ .own ds) ∨ (μ = false ∧ ∃ ds, ρ[i]? = some (some (.own ds)) ∧ x = .dat (.list ds)) := by
  unfold shutR at h
  rw [List.getElem?_map] at h
  cases e : ρ[i]? with
  | none => rw [e] at h; cases h
  | some y =>
    rw [e] at h
    have h : sealL μ y = some x := by simpa using h
    match y, h with
    | some (.own ds), h =>
      unfold sealL at h
      cases μ with
      | true => cases h
      | false => cases h; exact .inr ⟨rfl, ds, rfl, rfl⟩
    | some (.dat d), h => cases h; exact .inl ⟨rfl, fun ds z => by cases z⟩
    | some (.raw d), h => cases h; exact .inl ⟨rfl, fun ds z => by cases z⟩
    | some .pool, h => cases h; exact .inl ⟨rfl, fun ds z => by cases z⟩
    | none, h => cases h
def Mi (μ : Bool) (M0 : Addr → Prop) (σ : L2.St) (ρ : Rho) (D : Addr) (p : Addr) : Prop := Mu μ M0 σ ρ p ∨ p = D
theorem Mi.noOwn {μ : Bool} {M1 : Addr → Prop} {σ' : L2.St} {ρ : Rho} {vs : List Nat} : ∀ a, Mu true M1 σ' (wipeR (shutR μ ρ) vs) a → M1 a := fun a m => by
  rcases m with m | ⟨_, i, ds, e, _⟩
  · exact m
  · exfalso
    have : ∀ (vs : List Nat) (i : Nat), (wipeR (shutR μ ρ) vs)[i]? = some (some (.own ds)) → False := by
      intro vs
      induction vs with
      | nil =>
        intro i e
        rcases seal_get (show (shutR μ ρ)[i]? = _ from e) with ⟨_, z⟩ | ⟨_, _, _, z⟩
        · exact z ds rfl
        · cases z
      | cons v vs ih =>
        intro i e
        rcases set_get (show ((wipeR (shutR μ ρ) vs).set v none)[i]? = _ from e) with ⟨_, z⟩ | ⟨_, z⟩
        · cases z
        · exact ih i z
    exact this vs i e
theorem Rs.inner {μ : Bool} {M0 : Addr → Prop} {H0 H H2 : Hp} {σ : L2.St} {ρ : Rho} {D : Addr} {acc : List V} (R : Rs M0 H0 H σ ρ) (hD : H D = none) (s : Same H H2) (eD : H2 D = some (.lst acc)) (vs : List Nat) : Rs (Mi μ M0 σ ρ D) H2 H2 (wipe σ vs) (wipeR (shutR μ ρ) vs) := by
  have base : Rs (Mi μ M0 σ ρ D) H2 H2 σ (shutR μ ρ) := by
    have no := Mi.noOwn (μ := μ) (M1 := Mi μ M0 σ ρ D) (σ' := σ) (ρ := ρ) (vs := [])
    refine ⟨Same.refl _, fun p m => ?_, ?_, fun i d e => ?_, fun i ds e => ?_, fun i v e => ?_, fun i j a b p e1 e2 e3 e4 => ?_⟩
    · rcases m with m | rfl
      · exact ((R.domu μ).mono s) p m
      · rw [eD]; intro z; cases z
    · unfold shutR; rw [List.length_map]; exact R.len
    · rcases seal_get e with ⟨e8, _⟩ | ⟨rfl, ds, e8, z9⟩
      · cases μ with
        | true =>
          obtain ⟨v, a, b⟩ := R.dat i d e8
          refine ⟨v, a, (b.reM fun a m => ?_).mono (.of s)⟩
          rcases no a m with m | rfl
          · exact .inl m
          · exact .inr hD
        | false =>
          obtain ⟨v, a, b⟩ := R.dat i d e8
          refine ⟨v, a, (b.reM fun a m => ?_).mono (.of s)⟩
          rcases no a m with m | rfl
          · exact Mu.up a m
          · exact .inr hD
      · cases z9
        obtain ⟨p, vs, a, b, c, l, r⟩ := R.own i ds e8
        refine ⟨.ref p, a, (Rp.lst b (fun m => ?_) l (r.reM fun a m => ?_)).mono (.of s)⟩
        · rcases no p m with m | rfl
          · rcases m with m | ⟨z, _⟩
            · exact R.dom p m c
            · cases z
          · rw [hD] at b; cases b
        · rcases no a m with m | rfl
          · exact Mu.up a m
          · exact .inr hD
    · rcases seal_get e with ⟨e, z⟩ | ⟨_, _, _, z⟩
      · exact (z ds rfl).elim
      · cases z
    · rcases seal_get e with ⟨e, z⟩ | ⟨_, _, _, z⟩
      · exact R.raw i v e
      · cases z
    · rcases seal_get e1 with ⟨e, z⟩ | ⟨_, _, _, z⟩
      · exact (z _ rfl).elim
      · cases z
  induction vs with
  | nil => exact base
  | cons v vs ih => exact ih.clear v none
def lcGo (p : Pat) (c : Rho → Option Bool) (f : EF) (ρ : Rho) : List D → Option (List D)
  | [] => some []
  | x :: xs => (bindP p x ρ).bind fun ρ1 => (c ρ1).bind fun b => if b = true then (f ρ1).bind fun d => (lcGo p c f ρ xs).map fun r => d :: r else lcGo p c f ρ xs
def eLc (μ : Bool) (vs : List Nat) (it : Rho → Option (List D)) (p : Pat) (c : Rho → Option Bool) (f : EF) : EF := fun ρ => (it ρ).bind fun items => (lcGo p c f (wipeR (shutR μ ρ) vs) items).map .list
theorem some_map {α β : Type} {o : Option α} {f : α → β} {b : β} (h : o.map f = some b) : ∃ a, o = some a ∧ f a = b := by
  cases o with
  | none => cases h
  | some a => cases h; exact ⟨a, rfl, rfl⟩
theorem drop_at {α : Type} {xs : List α} {i : Nat} {x : α} (h : xs[i]? = some x) : xs.drop i = x :: xs.drop (i + 1) := by
  obtain ⟨hl, e⟩ := List.getElem?_eq_some_iff.mp h
  rw [List.drop_eq_getElem_cons hl, e]
theorem lcCore {K : PySem.W.Frag} {μ μi pr : Bool} {M0 : Addr → Prop} {H0 H1 : Hp} {σ : L2.St} {ρ : Rho} {J : It} {items res : List D} {p : Pat} {c : Rho → Option Bool} {f : EF} {vs : List Nat} {D : Addr} {Qd : Hp → Prop}
    (R : Rs M0 H0 H1 σ ρ) (dw : ∀ M', (∀ a, M' a → Mu μ M0 σ ρ a ∨ H1 a = none) → DW pr M' H1 J items) (hD : H1 D = none) (hp : p.fits pr = true) (hs : ∀ j, j ∈ slP p → j ∈ vs) (e : lcGo p c f (wipeR (shutR μ ρ) vs) items = some res)
    (q : ∀ H acc, Same H1 H → H D = some (.lst acc) → acc.length ≤ sizeLine → RpAll (Mi μ M0 σ ρ D) H acc res → Qd H) :
    ∃ W : Nat → Nat → Hp → Prop, (∃ m, W 0 m (upd H1 D (.lst []))) ∧ ∀ i m H, W i m H →
      (J.stop i H ∧ Qd H) ∨ (J.go i H ∧ ∃ Nx : Hp → Prop, (∀ H', Nx H' → ∃ m', m' < m ∧ W (i + 1) m' H') ∧ ∀ x H', J.yld i H x H' → gP K p x (wipe σ vs) H' fun σ2 H2 => wipe σ2 vs = wipe σ vs ∧ tT c σ2 H2 fun b H3 =>
        if b = true then tD μi f σ2 H3 fun y H4 => ∃ acc, H4 D = some (.lst acc) ∧ acc.length < sizeLine ∧ Nx (upd H4 D (.lst (acc ++ [y]))) else Nx H3) := by
  have dw := dw (Mi μ M0 σ ρ D) fun a m => m.elim .inl fun z => .inr (by rw [z]; exact hD)
  have sz := dw.sz
  obtain ⟨G, Y, W, hG, hY⟩ := dw.ex
  refine lc_it W (fun i H => Same H1 H ∧ ∃ acc done rest, H D = some (.lst acc) ∧ acc.length ≤ i ∧ RpAll (Mi μ M0 σ ρ D) H acc done ∧ lcGo p c f (wipeR (shutR μ ρ) vs) (items.drop i) = some rest ∧ done ++ rest = res) ⟨smN hD, [], [], res, upd_same, Nat.le_refl _, .nil, e, rfl⟩ (fun i H hi h => hG H (.of h.1)) (fun i v H H' hi h y => ?_) (fun H h => ?_)
  · obtain ⟨sm, acc, done, rest, eD, la, ra, er, et⟩ := h
    obtain ⟨d, ed, s2, rv⟩ := hY i v H H' (.of sm) y
    rw [drop_at ed] at er
    unfold lcGo at er
    obtain ⟨ρ1, e1, er⟩ := some_bind er
    obtain ⟨b, eb, er⟩ := some_bind er
    have Rin := R.inner (μ := μ) hD (sm.trans s2) (s2 _ _ eD) vs
    refine bindP.ok (pr := pr) Rin ?_ hp e1 fun σ2 R2 B2 => ⟨wipe_eq B2.oth B2.len hs, _, _, ρ1, b, R2, eb, fun H3 s3 => ?_⟩
    · rcases rv with rv | ⟨zp, a, xs, ds, z1, z2, z3, z4⟩
      · exact .inl (rv.reM fun a m => .inl (Mi.noOwn a m))
      · exact .inr ⟨zp, a, xs, ds, z1, z2, z3, z4.reM fun a m => .inl (Mi.noOwn a m)⟩
    have s13 := (sm.trans s2).trans s3
    cases b with
    | true =>
      obtain ⟨dv, edv, er⟩ := some_bind (show (f ρ1).bind _ = some rest from er)
      obtain ⟨r2, er2, rfl⟩ := some_map er
      refine ⟨_, _, ρ1, dv, R2.mono s3, edv, fun y H4 s4 r4 => ?_⟩
      have s14 := s13.trans s4
      have eD4 := (s2.trans (s3.trans s4)) _ _ eD
      have kp : KpM (Mi μ M0 σ ρ D) H4 (upd H4 D (.lst (acc ++ [y]))) := fun q o n e => by
        rw [upd_ne (fun z => n (.inr z))]
        exact e
      have r4 : Rp (Mi μ M0 σ ρ D) H4 y dv := r4.reM fun a m => .inl (.inl m)
      refine ⟨acc, eD4, by omega, fun q o e => ?_, acc ++ [y], done ++ [dv], r2, upd_same, by rw [List.length_append]; simp; omega, ?_, er2, by rw [← et, List.append_assoc]; rfl⟩
      · rw [upd_ne (ne_of_none e hD)]
        exact s14 _ _ e
      · exact ((ra.mono (.of (s2.trans (s3.trans s4)))).mono kp).app (.cons (r4.mono kp) .nil)
    | false =>
      exact ⟨s13, acc, done, rest, (s2.trans s3) _ _ eD, by omega, ra.mono (.of (s2.trans s3)), er, et⟩
  · obtain ⟨sm, acc, done, rest, eD, la, ra, er, et⟩ := h
    rw [List.drop_length] at er
    cases er
    rw [List.append_nil] at et
    subst et
    exact q H acc sm eD (by omega) ra
section
variable {X : Cx} {K : PySem.W.Frag}
def oYes : Rho → Option Bool := fun _ => some true
theorem _root_.L2.PTs.wk {es : List Expr} {t t' : TT} (h : PTs X es t) (m : ∀ σ H Q, t' σ H Q → t σ H Q) : PTs X es t' := ⟨fun pn s σ H Q I q => h.run pn s σ H Q I (m _ _ _ q)⟩
theorem dTs_nil : PTs X [] (tT oYes) := pts_nil.wk fun σ H Q q => by
  obtain ⟨M0, H0, ρ, b, R, e, q⟩ := q
  cases e
  exact q _ (Same.refl _)
/-- a new list, whose address is nobody's -/
def tN (f : EF) : TE := fun σ H Q => ∃ M0 H0 ρ ds, Rs M0 H0 H σ ρ ∧ f ρ = some (.list ds) ∧ ∀ p vs H', H p = none → Same H H' → H' p = some (.lst vs) → vs.length ≤ sizeLine → RpAll (Mi true M0 σ ρ p) H' vs ds → Q (.ref p) H'
theorem dLc {it : Rho → Option (List D)} {p : Pat} {c : Rho → Option Bool} {f : EF} {vs : List Nat} {μ μi pr : Bool} (hp : p.fits pr = true) (hs : ∀ j, j ∈ slP p → j ∈ vs) {σ : L2.St} {H : Hp} {Q : VK} (q : tD μ (eLc μ vs it p c f) σ H Q) : tLc (iD μ pr it) (gP K p) (tT c) (tD μi f) vs σ H Q := by
  obtain ⟨M0, H0, ρ, d, R, e, q⟩ := q
  obtain ⟨items, ei, e⟩ := some_bind e
  obtain ⟨res, er, rfl⟩ := some_map e
  refine ⟨M0, H0, ρ, items, R, ei, fun J H1 s1 dw D hD => lcCore (R.mono s1) dw hD hp hs er fun H2 acc s2 eD la ra => q _ _ (s1.trans s2) (.lst eD (((R.mono s1).domu μ).not hD) la (ra.reM fun a m => .inl (.inl m)))⟩
theorem nLc {it : Rho → Option (List D)} {p : Pat} {c : Rho → Option Bool} {f : EF} {vs : List Nat} {μi pr : Bool} (hp : p.fits pr = true) (hs : ∀ j, j ∈ slP p → j ∈ vs) {σ : L2.St} {H : Hp} {Q : VK} (q : tN (eLc true vs it p c f) σ H Q) : tLc (iD true pr it) (gP K p) (tT c) (tD μi f) vs σ H Q := by
  obtain ⟨M0, H0, ρ, d, R, e, q⟩ := q
  obtain ⟨items, ei, e⟩ := some_bind e
  obtain ⟨res, er, e⟩ := some_map e
  cases e
  refine ⟨M0, H0, ρ, items, R, ei, fun J H1 s1 dw D hD => lcCore (R.mono s1) dw hD hp hs er fun H2 acc s2 eD la ra => q D acc H2 ?_ (s1.trans s2) eD la ra⟩
  cases z : H D with
  | none => rfl
  | some o => rw [s1 _ _ z] at hD; cases hD
/-! ### statements -/
def sAsg (p : Pat) (f : EF) : Rho → Option Out := fun ρ => (f ρ).bind fun d => (bindP p d ρ).map .nx
theorem dS_asg {st : Stmt} {p : Pat} {f : EF} (h : PS X st (tAsg (tD true f) (gP K p))) : PS X st (tS (sAsg p f)) := h.wk fun Dn σ H q => by
  obtain ⟨M0, H0, ρ, o, R, e, q⟩ := q
  obtain ⟨d, ed, e⟩ := some_bind e
  obtain ⟨ρ1, e1, rfl⟩ := some_map e
  exact ⟨M0, H0, ρ, d, R, ed, fun v H1 s1 r1 => bindP.ok (pr := false) (R.mono s1) (.inl r1) (by cases p <;> rfl) e1 fun σ1 R1 B1 => q σ1 H1 R1 ⟨.of s1, fun p m => .inl (B1.mu p m)⟩⟩
def sRet (f : EF) : Rho → Option Out := fun ρ => (f ρ).map .rt
theorem dS_ret {st : Stmt} {f : EF} {μ : Bool} (h : PS X st (tRet (tD μ f))) : PS X st (tS (sRet f)) := h.wk fun Dn σ H q => by
  obtain ⟨M0, H0, ρ, o, R, e, q⟩ := q
  obtain ⟨d, ed, rfl⟩ := some_map e
  exact ⟨M0, H0, ρ, d, R, ed, fun v H1 s1 r1 => q v H1 (R.sm.trans s1) (r1.reM Mu.lo)⟩
def sRetN : Rho → Option Out := fun _ => some (.rt .none)
theorem dS_retN {pos : Pos} : PS X (.Return none pos) (tS sRetN) := ps_retN.wk fun Dn σ H q => by
  obtain ⟨M0, H0, ρ, o, R, e, q⟩ := q
  cases e
  exact q _ H R.sm .non
def sDrop (f : EF) : Rho → Option Out := fun ρ => (f ρ).map fun _ => .nx ρ
theorem dS_expr {st : Stmt} {f : EF} {μ : Bool} (h : PS X st (tDrop (tD μ f))) : PS X st (tS (sDrop f)) := h.wk fun Dn σ H q => by
  obtain ⟨M0, H0, ρ, o, R, e, q⟩ := q
  obtain ⟨d, ed, rfl⟩ := some_map e
  exact ⟨M0, H0, ρ, d, R, ed, fun v H1 s1 r1 => q σ H1 (R.mono s1) ⟨.of s1, fun p m => .inl m⟩⟩
def sIf (c : Rho → Option Bool) (f g : Rho → Option Out) : Rho → Option Out := fun ρ => (c ρ).bind fun b => if b = true then f ρ else g ρ
/-- from a later heap, where what stood stands -/
def Post (M0 : Addr → Prop) (H0 : Hp) (σ : L2.St) (ρ : Rho) (H : Hp) (Dn : Ends) : Out → Prop
  | .nx ρ' => ∀ σ' H', Rs M0 H0 H' σ' ρ' → Stp M0 σ ρ H σ' ρ' H' → Dn.nx σ' H'
  | .rt d => ∀ v H', Same H0 H' → Rp M0 H' v d → Dn.rt v H'
  | .bk ρ' => ∀ σ' H', Rs M0 H0 H' σ' ρ' → Stp M0 σ ρ H σ' ρ' H' → Dn.bk σ' H'
  | .ct ρ' => ∀ σ' H', Rs M0 H0 H' σ' ρ' → Stp M0 σ ρ H σ' ρ' H' → Dn.ct σ' H'
theorem tS_iff {f : Rho → Option Out} {Dn : Ends} {σ : L2.St} {H : Hp} : tS f Dn σ H ↔ ∃ M0 H0 ρ o, Rs M0 H0 H σ ρ ∧ f ρ = some o ∧ Post M0 H0 σ ρ H Dn o := by
  constructor
  · rintro ⟨M0, H0, ρ, o, R, e, q⟩
    exact ⟨M0, H0, ρ, o, R, e, by cases o <;> exact q⟩
  · rintro ⟨M0, H0, ρ, o, R, e, q⟩
    exact ⟨M0, H0, ρ, o, R, e, by cases o <;> exact q⟩
theorem Post.from {M0 : Addr → Prop} {H0 : Hp} {σ σ1 : L2.St} {ρ ρ1 : Rho} {H H1 : Hp} {Dn : Ends} {o : Out} (st : Stp M0 σ ρ H σ1 ρ1 H1) (p : Post M0 H0 σ ρ H Dn o) : Post M0 H0 σ1 ρ1 H1 Dn o := by
  cases o with
  | nx ρ' => exact fun σ' H' R s => p σ' H' R (st.trans s)
  | rt d => exact p
  | bk ρ' => exact fun σ' H' R s => p σ' H' R (st.trans s)
  | ct ρ' => exact fun σ' H' R s => p σ' H' R (st.trans s)
theorem Stp.of {M0 : Addr → Prop} {σ : L2.St} {ρ : Rho} {H H' : Hp} (s : Same H H') : Stp M0 σ ρ H σ ρ H' := ⟨.of s, fun p m => .inl m⟩
theorem dS_if {c : Expr} {a b : List Stmt} {pos : Pos} {t : Rho → Option Bool} {f g : Rho → Option Out} (hc : PT X c (tT t)) (ha : PSs X a (tS f)) (hb : PSs X b (tS g)) : PS X (.If c a b pos) (tS (sIf t f g)) := (ps_if hc ha hb).wk fun Dn σ H q => by
  obtain ⟨M0, H0, ρ, o, R, e, q⟩ := tS_iff.mp q
  obtain ⟨c, ec, e⟩ := some_bind e
  refine ⟨M0, H0, ρ, c, R, ec, fun H1 s1 => ?_⟩
  cases c with
  | true => exact tS_iff.mpr ⟨M0, H0, ρ, o, R.mono s1, e, q.from (.of s1)⟩
  | false => exact tS_iff.mpr ⟨M0, H0, ρ, o, R.mono s1, e, q.from (.of s1)⟩
def sSeq (f g : Rho → Option Out) : Rho → Option Out := fun ρ => (f ρ).bind fun o => match o with
  | .nx ρ' => g ρ'
  | o => some o
theorem dSs_cons {st : Stmt} {rest : List Stmt} {f g : Rho → Option Out} (h : PS X st (tS f)) (hs : PSs X rest (tS g)) : PSs X (st :: rest) (tS (sSeq f g)) := (pss_cons h hs).wk fun Dn σ H q => by
  obtain ⟨M0, H0, ρ, o, R, e, q⟩ := tS_iff.mp q
  obtain ⟨o1, e1, e⟩ := some_bind e
  refine tS_iff.mpr ⟨M0, H0, ρ, o1, R, e1, ?_⟩
  cases o1 with
  | nx ρ' => exact fun σ' H' R' s => tS_iff.mpr ⟨M0, H0, ρ', o, R', e, q.from s⟩
  | rt d => cases e; exact q
  | bk ρ' => cases e; exact q
  | ct ρ' => cases e; exact q
theorem dSs_one {st : Stmt} {f : Rho → Option Out} (h : PS X st (tS f)) : PSs X [st] (tS f) := pss_one h
def sNil : Rho → Option Out := fun ρ => some (.nx ρ)
theorem dSs_nil : PSs X [] (tS sNil) := pss_nil.wk fun Dn σ H q => by
  obtain ⟨M0, H0, ρ, o, R, e, q⟩ := tS_iff.mp q
  cases e
  exact q σ H R .refl
theorem dS_pass {pos : Pos} : PS X (.Pass pos) (tS sNil) := ps_pass.wk fun Dn σ H q => by
  obtain ⟨M0, H0, ρ, o, R, e, q⟩ := tS_iff.mp q
  cases e
  exact q σ H R .refl
def forGo (p : Pat) (body : Rho → Option Out) : List D → Rho → Option Out
  | [], ρ => some (.nx ρ)
  | x :: xs, ρ => (bindP p x ρ).bind fun ρ1 => (body ρ1).bind fun o => match o with
    | .nx ρ2 => forGo p body xs ρ2
    | .ct ρ2 => forGo p body xs ρ2
    | .bk ρ2 => some (.nx ρ2)
    | .rt d => some (.rt d)
def sFor (it : Rho → Option (List D)) (p : Pat) (body : Rho → Option Out) : Rho → Option Out := fun ρ => (it ρ).bind fun items => forGo p body items ρ
theorem dFor {it : Rho → Option (List D)} {p : Pat} {body : Rho → Option Out} {pr : Bool} (hp : p.fits pr = true) {Dn : Ends} {σ : L2.St} {H : Hp} (q : tS (sFor it p body) Dn σ H) : tFor (iD true pr it) (gP K p) (tS body) Dn σ H := by
  obtain ⟨M0, H0, ρ, o, R, e, q⟩ := tS_iff.mp q
  obtain ⟨items, ei, e⟩ := some_bind e
  refine ⟨M0, H0, ρ, items, R, ei, fun J H1 s1 dw => ⟨fun i m σ' H' => i ≤ items.length ∧ m = items.length - i ∧ ∃ ρ', Rs M0 H0 H' σ' ρ' ∧ Stp M0 σ ρ H1 σ' ρ' H' ∧ forGo p body (items.drop i) ρ' = some o, ⟨_, Nat.zero_le _, rfl, ρ, R.mono s1, .refl, e⟩, ?_⟩⟩
  rintro i m σ' H' ⟨hi, rfl, ρ', R', st, e⟩
  have dw := dw (fun a => Mu true M0 σ' ρ' a ∨ Mu true M0 σ ρ a) fun a m => m.elim (st.ow a) .inl
  obtain ⟨G, Y, W, hG, hY⟩ := dw.ex
  have kp : KpM (fun a => Mu true M0 σ' ρ' a ∨ Mu true M0 σ ρ a) H1 H' := fun p o n e => st.kp p o (fun m => n (.inr m)) e
  by_cases hlt : i < items.length
  · refine .inr ⟨W.goes i H' hlt (hG _ kp), fun σ3 H3 => ∃ ρ3, Rs M0 H0 H3 σ3 ρ3 ∧ Stp M0 σ ρ H1 σ3 ρ3 H3 ∧ forGo p body (items.drop (i + 1)) ρ3 = some o, fun σ3 H3 h => ⟨items.length - (i + 1), by omega, hlt, rfl, h⟩, fun x Hb y => ?_⟩
    obtain ⟨d, ed, s2, rv⟩ := hY i x H' Hb kp (W.yields i H' x Hb hlt (hG _ kp) y)
    rw [drop_at ed] at e
    unfold forGo at e
    obtain ⟨ρ1, e1, e⟩ := some_bind e
    obtain ⟨o1, eo, e⟩ := some_bind e
    refine bindP.ok (pr := pr) (R'.mono s2) ?_ hp e1 fun σ2 R2 B2 => tS_iff.mpr ⟨M0, H0, ρ1, o1, R2, eo, ?_⟩
    · rcases rv with rv | ⟨zp, a, xs, ds, z1, z2, z3, z4⟩
      · exact .inl (rv.reM fun a m => .inl (.inl m))
      · exact .inr ⟨zp, a, xs, ds, z1, z2, z3, z4.reM fun a m => .inl (.inl m)⟩
    have st2 : Stp M0 σ' ρ' H' σ2 ρ1 Hb := ⟨.of s2, fun p m => .inl (B2.mu p m)⟩
    cases o1 with
    | nx ρ2 => exact fun σ3 H3 R3 s3 => ⟨ρ2, R3, (st.trans st2).trans s3, e⟩
    | ct ρ2 => exact fun σ3 H3 R3 s3 => ⟨ρ2, R3, (st.trans st2).trans s3, e⟩
    | bk ρ2 => cases e; exact fun σ3 H3 R3 s3 => q σ3 H3 R3 ((Stp.of s1).trans ((st.trans st2).trans s3))
    | rt d => cases e; exact q
  · have : i = items.length := by omega
    subst this
    rw [List.drop_length] at e
    cases e
    exact .inl ⟨W.stops H' (hG _ kp), q σ' H' R' ((Stp.of s1).trans st)⟩
theorem dS_for {st : Stmt} {it : Rho → Option (List D)} {p : Pat} {body : Rho → Option Out} {pr : Bool} (h : PS X st (tFor (iD true pr it) (gP K p) (tS body))) (hp : p.fits pr = true := by rfl) : PS X st (tS (sFor it p body)) := h.wk fun Dn σ H q => dFor hp q
/-! lists of one's own -/
theorem Rs.ownSet {M0 : Addr → Prop} {H0 H : Hp} {σ : L2.St} {ρ : Rho} {i : Nat} {ds ds' : List D} {p : Addr} {vs vs' : List V} (R : Rs M0 H0 H σ ρ) (e : ρ[i]? = some (some (.own ds))) (es : σ[i]? = some (some (.ref p))) (eH : H p = some (.lst vs)) (l : vs'.length ≤ sizeLine) (r : RpAll (Mu true M0 σ ρ) H vs' ds') :
    Rs M0 H0 (upd H p (.lst vs')) σ (ρ.set i (some (.own ds'))) ∧ Stp M0 σ ρ H σ (ρ.set i (some (.own ds'))) (upd H p (.lst vs')) := by
  have hi : i < ρ.length := (List.getElem?_eq_some_iff.mp e).1
  have mp : Mu true M0 σ ρ p := .inr ⟨rfl, i, ds, e, es⟩
  have mu : ∀ a, Mu true M0 σ (ρ.set i (some (.own ds'))) a → Mu true M0 σ ρ a := fun a m => by
    rcases m with m | ⟨_, j, es', e1, e2⟩
    · exact .inl m
    · rcases set_get e1 with ⟨rfl, _⟩ | ⟨n, e1⟩
      · exact .inr ⟨rfl, i, ds, e, e2⟩
      · exact .inr ⟨rfl, j, es', e1, e2⟩
  have kp : KpM (Mu true M0 σ ρ) H (upd H p (.lst vs')) := fun a o n e => by
    rw [upd_ne (fun z => n (by rw [z]; exact mp))]
    exact e
  have h0 : H0 p = none := by
    obtain ⟨q, us, a, b, c, _⟩ := R.own i ds e
    rw [es] at a
    cases a
    exact c
  refine ⟨⟨fun a o e => ?_, R.dom, by rw [List.length_set]; exact R.len, fun j d e1 => ?_, fun j es' e1 => ?_, fun j v e1 => ?_, fun j k a b q e1 e2 e3 e4 => ?_⟩, kp, fun a m => .inl (mu a m)⟩
  · rw [upd_ne (fun z => by rw [z, h0] at e; cases e)]
    exact R.sm a o e
  · rcases set_get e1 with ⟨_, z⟩ | ⟨n, e1⟩
    · cases z
    · obtain ⟨v, a, b⟩ := R.dat j d e1
      exact ⟨v, a, (b.mono kp).reM fun a m => .inl (mu a m)⟩
  · rcases set_get e1 with ⟨rfl, z⟩ | ⟨n, e1⟩
    · cases z
      exact ⟨p, vs', es, upd_same, h0, l, (r.mono kp).reM fun a m => .inl (mu a m)⟩
    · obtain ⟨q, us, a, b, c, l', r'⟩ := R.own j es' e1
      refine ⟨q, us, a, ?_, c, l', (r'.mono kp).reM fun a m => .inl (mu a m)⟩
      rw [upd_ne (fun z => n (R.inj i j ds es' p e e1 es (by rw [← z]; exact a)))]
      exact b
  · rcases set_get e1 with ⟨_, z⟩ | ⟨n, e1⟩
    · cases z
    · exact R.raw j v e1
  · have f1 : ∃ a', ρ[j]? = some (some (.own a')) := by
      rcases set_get e1 with ⟨rfl, _⟩ | ⟨_, z⟩
      · exact ⟨ds, e⟩
      · exact ⟨a, z⟩
    have f2 : ∃ a', ρ[k]? = some (some (.own a')) := by
      rcases set_get e2 with ⟨rfl, _⟩ | ⟨_, z⟩
      · exact ⟨ds, e⟩
      · exact ⟨b, z⟩
    obtain ⟨a', f1⟩ := f1
    obtain ⟨b', f2⟩ := f2
    exact R.inj j k a' b' q f1 f2 e3 e4
theorem Rs.ownNew {M0 : Addr → Prop} {H0 H H' : Hp} {σ : L2.St} {ρ : Rho} {i : Nat} {ds : List D} {p : Addr} {vs : List V} (R : Rs M0 H0 H σ ρ) (hi : i < ρ.length) (np : H p = none) (s : Same H H') (eH : H' p = some (.lst vs)) (l : vs.length ≤ sizeLine) (r : RpAll (Mi true M0 σ ρ p) H' vs ds) :
    Rs M0 H0 H' (σ.set i (some (.ref p))) (ρ.set i (some (.own ds))) ∧ Stp M0 σ ρ H (σ.set i (some (.ref p))) (ρ.set i (some (.own ds))) H' := by
  have mu : ∀ a, Mu true M0 (σ.set i (some (.ref p))) (ρ.set i (some (.own ds))) a → Mi true M0 σ ρ p a := fun a m => by
    rcases m with m | ⟨_, j, es', e1, e2⟩
    · exact .inl (.inl m)
    · rcases set_get e1 with ⟨rfl, _⟩ | ⟨n, e1⟩
      · rw [set_same (by rw [← R.len]; exact hi)] at e2
        cases e2
        exact .inr rfl
      · rw [set_other n] at e2
        exact .inl (.inr ⟨rfl, j, es', e1, e2⟩)
  have h0 : H0 p = none := by
    cases z : H0 p with
    | none => rfl
    | some o => rw [R.sm _ _ z] at np; cases np
  have re : ∀ a, Mu true M0 (σ.set i (some (.ref p))) (ρ.set i (some (.own ds))) a → Mu true M0 σ ρ a ∨ H a = none := fun a m => by
    rcases mu a m with m | rfl
    · exact .inl m
    · exact .inr np
  refine ⟨⟨R.sm.trans s, R.dom, by rw [List.length_set, List.length_set]; exact R.len, fun j d e1 => ?_, fun j es' e1 => ?_, fun j v e1 => ?_, fun j k a b q e1 e2 e3 e4 => ?_⟩, .of s, re⟩
  · rcases set_get e1 with ⟨_, z⟩ | ⟨n, e1⟩
    · cases z
    · obtain ⟨v, a, b⟩ := R.dat j d e1
      exact ⟨v, by rw [set_other n]; exact a, (b.reM re).mono (.of s)⟩
  · rcases set_get e1 with ⟨rfl, z⟩ | ⟨n, e1⟩
    · cases z
      exact ⟨p, vs, set_same (by rw [← R.len]; exact hi), eH, h0, l, r.reM fun a m => .inl (mu a m)⟩
    · obtain ⟨q, us, a, b, c, l', r'⟩ := R.own j es' e1
      exact ⟨q, us, by rw [set_other n]; exact a, s _ _ b, c, l', (r'.reM re).mono (.of s)⟩
  · rcases set_get e1 with ⟨_, z⟩ | ⟨n, e1⟩
    · cases z
    · rw [set_other n]; exact R.raw j v e1
  · have own : ∀ (m : Nat) (es : List D), ρ[m]? = some (some (.own es)) → σ[m]? = some (some (.ref q)) → q ≠ p := fun m es f1 f2 z => by
      obtain ⟨q', us, a, b, _⟩ := R.own m es f1
      rw [f2] at a
      cases a
      rw [z, np] at b
      cases b
    rcases set_get e1 with ⟨rfl, _⟩ | ⟨n1, f1⟩
    · rcases set_get e2 with ⟨rfl, _⟩ | ⟨n2, f2⟩
      · rfl
      · rw [set_same (by rw [← R.len]; exact hi)] at e3
        cases e3
        rw [set_other n2] at e4
        exact (own k b f2 e4 rfl).elim
    · rw [set_other n1] at e3
      rcases set_get e2 with ⟨rfl, _⟩ | ⟨n2, f2⟩
      · rw [set_same (by rw [← R.len]; exact hi)] at e4
        cases e4
        exact (own j a f1 e3 rfl).elim
      · rw [set_other n2] at e4
        exact R.inj j k a b q f1 f2 e3 e4
def sOwn (i : Nat) (f : EF) : Rho → Option Out := fun ρ => (f ρ).bind fun d => match d with
  | .list ds => if i < ρ.length then some (.nx (ρ.set i (some (.own ds)))) else none
  | _ => none
theorem dS_own {st : Stmt} {i : Nat} {f : EF} (h : PS X st (tAsg (tN f) (gName i))) : PS X st (tS (sOwn i f)) := h.wk fun Dn σ H q => by
  obtain ⟨M0, H0, ρ, o, R, e, q⟩ := tS_iff.mp q
  obtain ⟨d, ed, e⟩ := some_bind e
  cases d <;> try (cases e; done)
  obtain ⟨hi, rfl⟩ := iteS e
  refine ⟨M0, H0, ρ, _, R, ed, fun p vs H1 np s1 eH l r => ?_⟩
  obtain ⟨R1, s1⟩ := R.ownNew hi np s1 eH l r
  exact q _ _ R1 s1
theorem oE_lst {es : List Expr} {pos : Pos} {g : Rho → Option (List D)} (h : PA X es (tA true g)) : PE X (.List es pos) (tN (eLst g)) := (pe_lst h).wk fun σ H Q q => by
  obtain ⟨M0, H0, ρ, d, R, e, q⟩ := q
  obtain ⟨ds, ed, e⟩ := some_bind e
  obtain ⟨l, z⟩ := iteS e
  cases z
  refine ⟨M0, H0, ρ, _, R, ed, fun vs H1 s1 r1 => ⟨by rw [r1.len]; exact l, fun p np => q p vs _ ?_ (s1.trans (smN np)) upd_same (by rw [r1.len]; exact l) ((r1.reM fun a m => ?_).mono (.of (smN np)))⟩⟩
  · cases z : H p with
    | none => rfl
    | some o => rw [s1 _ _ z] at np; cases np
  · rcases m with m | rfl
    · exact .inl m
    · exact .inr np
def sApp (i : Nat) (f : Rho → Option (List D)) : Rho → Option Out := fun ρ => match ρ[i]? with
  | some (some (.own ds)) => (f ρ).bind fun es => match es with
    | [d] => if ds.length < sizeLine then some (.nx (ρ.set i (some (.own (ds ++ [d]))))) else none
    | _ => none
  | _ => none
theorem dS_app {st : Stmt} {i : Nat} {f : Rho → Option (List D)} (h : PS X st (tDrop (tBM K "list" rAppend (tVar i) (tA true f)))) : PS X st (tS (sApp i f)) := h.wk fun Dn σ H q => by
  obtain ⟨M0, H0, ρ, o, R, e, q⟩ := tS_iff.mp q
  unfold sApp at e
  split at e
  · rename_i ds z
    obtain ⟨es, ed, e⟩ := some_bind e
    obtain ⟨p, vs, a, b, c, l, r⟩ := R.own i ds z
    refine ⟨.ref p, a, .inl ⟨rfl, _, SqL.of b⟩, M0, H0, ρ, es, R, ed, fun us H1 s1 r1 => ?_⟩
    match es, r1, e with
    | [d], .cons r1 .nil, e =>
      obtain ⟨l2, rfl⟩ := iteS e
      have hl : vs.length < sizeLine := by rw [r.len]; exact l2
      refine ⟨p, vs, _, rfl, rfl, s1 _ _ b, hl, ?_⟩
      obtain ⟨R1, S1⟩ := (R.mono s1).ownSet z a (s1 _ _ b) (vs' := vs ++ [_]) (by rw [List.length_append]; exact hl) ((r.mono (.of s1)).app (.cons r1 .nil))
      exact q _ _ R1 ((Stp.of s1).trans S1)
  · cases e
end
/-! ### a def -/
def startR (n : Nat) (ds : List D) : Rho := ds.map (fun d => some (.dat d)) ++ List.replicate (n - ds.length) none
theorem RpAll.start {M : Addr → Prop} {H : Hp} {N : List Str} {vs : List V} {ds : List D} (dm : Dom M H) (r : RpAll M H vs ds) : Rs M H H (L2.start N vs) (startR N.length ds) := by
  have get : ∀ (i : Nat) (x : LV), (startR N.length ds)[i]? = some (some x) → ∃ d, ds[i]? = some d ∧ x = .dat d := fun i x e => by
    unfold startR at e
    rw [List.getElem?_append] at e
    split at e
    · rw [List.getElem?_map] at e
      cases z : ds[i]? with
      | none => rw [z] at e; cases e
      | some d => rw [z] at e; cases e; exact ⟨d, rfl, rfl⟩
    · rw [List.getElem?_replicate] at e
      split at e <;> cases e
  have mu : ∀ a, Mu true M (L2.start N vs) (startR N.length ds) a → M a ∨ H a = none := fun a m => by
    rcases m with m | ⟨_, j, es, e, _⟩
    · exact .inl m
    · obtain ⟨d, _, z⟩ := get j _ e
      cases z
  refine ⟨Same.refl _, dm, ?_, fun i d e => ?_, fun i es e => ?_, fun i v e => ?_, fun i j a b p e => ?_⟩
  · unfold startR L2.start
    simp [r.len]
  · obtain ⟨d', ed, z⟩ := get i _ e
    cases z
    obtain ⟨v, a, b⟩ := r.get ed
    refine ⟨v, ?_, b.reM mu⟩
    unfold L2.start
    rw [List.getElem?_append, if_pos (by rw [List.length_map]; exact (List.getElem?_eq_some_iff.mp a).1), List.getElem?_map, a]
    rfl
  · obtain ⟨d', _, z⟩ := get i _ e
    cases z
  · obtain ⟨d', _, z⟩ := get i _ e
    cases z
  · obtain ⟨d', _, z⟩ := get i _ e
    cases z
def Tells (o : Out) (d : D) : Prop := match o with
  | .rt e => e = d
  | .nx _ => d = .none
  | _ => False
theorem okFn {P : Program} {w : World} {K : PySem.W.Frag} {mg : Str → Option Value} {base : Heap} {x qual : Str} {st : Stmt} {f : Addr} {fd : FuncData} {N ps : List Str} {k n : Nat} {g : List D → Option D} (F : Fun K x qual st f fd) (S : FnScope N ps (defScope st)) (hn : n = ps.length)
    (walk : ∀ (cdv : Value) (A : Around) (outer : List Env) (s : Shared) (H : Hp) (E : XK), Room k (A.deeper (envOfC qual (defScope st) s.heap.objs.size f cdv)) →
      ∃ fS, PSs (cxOf CX0 P w K mg base N qual (defScope st) f cdv A outer s H E).nox (defBody st) (tS fS) ∧ ∀ ds d, ds.length = n → g ds = some d → ∃ o, fS (startR N.length ds) = some o ∧ Tells o d) :
    FnOk P w K mg base CX0 (k + 1) f fd ps (spD n g) := by
  refine F.ok S (fun vs H Q E h => ?_) (fun cdv A outer s H vs Q E hr h => ?_)
  · obtain ⟨M, ds, d, dm, r, l, _⟩ := h
    rw [r.len, l, hn]
  · obtain ⟨M, ds, d, dm, r, l, e, q⟩ := h
    obtain ⟨fS, hS, hw⟩ := walk cdv A outer s H E hr
    obtain ⟨o, eo, t⟩ := hw ds d l e
    refine ⟨_, hS, tS_iff.mpr ⟨M, H, _, o, r.start dm, eo, ?_⟩⟩
    cases o with
    | nx ρ' => cases t; exact fun σ' H' R s => q _ _ R.sm .non
    | rt d' => cases t; exact fun v H' s r => q v H' s r
    | bk ρ' => exact t.elim
    | ct ρ' => exact t.elim
end Dl
namespace Dl
open PySem PySem.Spec PyProof.Rows L2 Rt
def lenD : List D → Option D
  | [.tuple ds] => some (.int ds.length)
  | [.list ds] => some (.int ds.length)
  | [.str z] => some (.int z.length)
  | _ => none
def boolsD : List D → Option (List Bool)
  | [] => some []
  | .bool b :: ds => (boolsD ds).map (b :: ·)
  | _ :: _ => none
def intsD : List D → Option (List Int)
  | [] => some []
  | .int b :: ds => (intsD ds).map (b :: ·)
  | _ :: _ => none
theorem RpAll.bools {M : Addr → Prop} {H : Hp} : ∀ {vs : List V} {ds : List D} {bs : List Bool}, RpAll M H vs ds → boolsD ds = some bs → vs = bs.map V.bl
  | _, _, _, .nil, e => by cases e; rfl
  | _, _, _, .cons (d := .bool b) h t, e => by
    obtain ⟨r, er, rfl⟩ := some_map e
    cases h
    rw [t.bools er]
    rfl
  | _, _, _, .cons (d := .none) h t, e => nomatch e
  | _, _, _, .cons (d := .int _) h t, e => nomatch e
  | _, _, _, .cons (d := .str _) h t, e => nomatch e
  | _, _, _, .cons (d := .list _) h t, e => nomatch e
  | _, _, _, .cons (d := .tuple _) h t, e => nomatch e
  | _, _, _, .cons (d := .dict _) h t, e => nomatch e
theorem RpAll.ints {M : Addr → Prop} {H : Hp} : ∀ {vs : List V} {ds : List D} {bs : List Int}, RpAll M H vs ds → intsD ds = some bs → vs = bs.map V.int
  | _, _, _, .nil, e => by cases e; rfl
  | _, _, _, .cons (d := .int b) h t, e => by
    obtain ⟨r, er, rfl⟩ := some_map e
    cases h
    rw [t.ints er]
    rfl
  | _, _, _, .cons (d := .none) h t, e => nomatch e
  | _, _, _, .cons (d := .bool _) h t, e => nomatch e
  | _, _, _, .cons (d := .str _) h t, e => nomatch e
  | _, _, _, .cons (d := .list _) h t, e => nomatch e
  | _, _, _, .cons (d := .tuple _) h t, e => nomatch e
  | _, _, _, .cons (d := .dict _) h t, e => nomatch e
def allD : List D → Option D
  | [.list ds] => (boolsD ds).map fun bs => .bool (bs.all id)
  | _ => none
def anyD : List D → Option D
  | [.list ds] => (boolsD ds).map fun bs => .bool (bs.any id)
  | _ => none
def tupD : List D → Option D
  | [.list ds] => some (.tuple ds)
  | [.tuple ds] => some (.tuple ds)
  | _ => none
def lisD : List D → Option D
  | [.list ds] => some (.list ds)
  | [.tuple ds] => some (.list ds)
  | _ => none
def intD : List D → Option D
  | [.int i] => some (.int i)
  | [.bool b] => some (.int (if b = true then 1 else 0))
  | _ => none
def min2D : List D → Option D
  | [.int i, .int j] => some (.int (if j < i then j else i))
  | _ => none
def max2D : List D → Option D
  | [.int i, .int j] => some (.int (if j > i then j else i))
  | _ => none
def minL : List Int → Option Int
  | [] => none
  | x :: xs => some (xs.foldl min x)
def maxL : List Int → Option Int
  | [] => none
  | x :: xs => some (xs.foldl max x)
def absD : List D → Option D
  | [.int i] => some (.int (if i < 0 then -i else i))
  | _ => none
def sumD : List D → Option D
  | [.list ds] => (intsD ds).map fun ns => .int ns.sum
  | _ => none
section
variable {X : Cx}
theorem c_len : CallR X (.builtin "len") (rC lenD) := by
  intro pn s σ H xs us Q I r h
  obtain ⟨M, ds, d, dm, ra, e, q⟩ := h
  match ds, ra, e with
  | [.tuple ds], .cons (@Rp.tup _ _ a xs1 _ t n l r) .nil, e =>
    cases e
    exact call_len pn s σ H _ us Q I ‹_› ⟨.ref a, xs1.length, rfl, .inr ⟨_, t.sq, rfl⟩, by rw [r.len]; exact q _ _ (Same.refl _) (.int _)⟩
  | [.list ds], .cons (@Rp.lst _ _ a xs1 _ t n l r) .nil, e =>
    cases e
    exact call_len pn s σ H _ us Q I ‹_› ⟨.ref a, xs1.length, rfl, .inl ⟨_, SqL.of t, rfl⟩, by rw [r.len]; exact q _ _ (Same.refl _) (.int _)⟩
  | [.str z], .cons (.str _ l) .nil, e =>
    cases e
    exact call_len pn s σ H _ us Q I ‹_› ⟨.str z, z.length, rfl, ⟨l, rfl⟩, q _ _ (Same.refl _) (.int _)⟩
theorem c_all (hc : X.calm = true) : CallR X (.builtin "all") (rC allD) := by
  intro pn s σ H xs us Q I r h
  obtain ⟨M, ds, d, dm, ra, e, q⟩ := h
  match ds, ra, e with
  | [.list ds], .cons (.lst t n l r) .nil, e =>
    obtain ⟨bs, eb, rfl⟩ := some_map e
    exact cr_all hc pn s σ H _ us Q I ‹_› ⟨_, bs, rfl, by rw [← r.bools eb]; exact SqL.of t, q _ _ (Same.refl _) (.bl _)⟩
theorem c_any (hc : X.calm = true) : CallR X (.builtin "any") (rC anyD) := by
  intro pn s σ H xs us Q I r h
  obtain ⟨M, ds, d, dm, ra, e, q⟩ := h
  match ds, ra, e with
  | [.list ds], .cons (.lst t n l r) .nil, e =>
    obtain ⟨bs, eb, rfl⟩ := some_map e
    exact cr_any hc pn s σ H _ us Q I ‹_› ⟨_, bs, rfl, by rw [← r.bools eb]; exact SqL.of t, q _ _ (Same.refl _) (.bl _)⟩
theorem c_sum (hc : X.calm = true) : CallR X (.builtin "sum") (rC sumD) := by
  intro pn s σ H xs us Q I r h
  obtain ⟨M, ds, d, dm, ra, e, q⟩ := h
  match ds, ra, e with
  | [.list ds], .cons (.lst t n l r) .nil, e =>
    obtain ⟨bs, eb, rfl⟩ := some_map e
    exact cr_sum hc pn s σ H _ us Q I ‹_› ⟨_, bs, rfl, by rw [← r.ints eb]; exact SqL.of t, q _ _ (Same.refl _) (.int _)⟩
theorem c_tuple : CallR X (.type "tuple") (rC tupD) := by
  intro pn s σ H xs us Q I r h
  obtain ⟨M, ds, d, dm, ra, e, q⟩ := h
  match ds, ra, e with
  | [.list ds], .cons (.lst t n l r) .nil, e =>
    cases e
    exact call_tupF pn s σ H _ us Q I ‹_› ⟨_, _, rfl, SqL.of t, fun p o H' np od eH => by
      subst eH
      exact q _ _ (smN np) (.tup ⟨o, upd_same, od⟩ (dm.not np) l (r.mono (.of (smN np))))⟩
  | [.tuple ds], .cons (.tup t n l r) .nil, e =>
    cases e
    exact call_tuple_of pn s σ H _ us Q I ‹_› ⟨_, _, rfl, .inr ⟨t.sq, q _ _ (Same.refl _) (.tup t n l r)⟩⟩
theorem c_list : CallR X (.type "list") (rC lisD) := by
  intro pn s σ H xs us Q I r h
  obtain ⟨M, ds, d, dm, ra, e, q⟩ := h
  match ds, ra, e with
  | [.list ds], .cons (.lst t n l r) .nil, e =>
    cases e
    exact call_list_of pn s σ H _ us Q I ‹_› ⟨_, _, rfl, .inl (SqL.of t), fun p np => q _ _ (smN np) (.lst upd_same (dm.not np) l (r.mono (.of (smN np))))⟩
  | [.tuple ds], .cons (.tup t n l r) .nil, e =>
    cases e
    exact call_list_of pn s σ H _ us Q I ‹_› ⟨_, _, rfl, .inr t.sq, fun p np => q _ _ (smN np) (.lst upd_same (dm.not np) l (r.mono (.of (smN np))))⟩
theorem c_int : CallR X (.type "int") (rC intD) := by
  intro pn s σ H xs us Q I r h
  obtain ⟨M, ds, d, dm, ra, e, q⟩ := h
  match ds, ra, e with
  | [.int i], .cons (.int _) .nil, e => cases e; exact call_int1 pn s σ H _ us Q I ‹_› (.inl ⟨_, rfl, q _ _ (Same.refl _) (.int _)⟩)
  | [.bool i], .cons (.bl _) .nil, e => cases e; exact call_int1 pn s σ H _ us Q I ‹_› (.inr ⟨_, rfl, q _ _ (Same.refl _) (.int _)⟩)
theorem c_min2 (hc : X.calm = true) : CallR X (.builtin "min") (rC min2D) := by
  intro pn s σ H xs us Q I r h
  obtain ⟨M, ds, d, dm, ra, e, q⟩ := h
  match ds, ra, e with
  | [.int i, .int j], .cons (.int _) (.cons (.int _) .nil), e => cases e; exact call_min2 hc pn s σ H _ us Q I ‹_› ⟨_, _, rfl, q _ _ (Same.refl _) (.int _)⟩
theorem c_max2 (hc : X.calm = true) : CallR X (.builtin "max") (rC max2D) := by
  intro pn s σ H xs us Q I r h
  obtain ⟨M, ds, d, dm, ra, e, q⟩ := h
  match ds, ra, e with
  | [.int i, .int j], .cons (.int _) (.cons (.int _) .nil), e => cases e; exact call_max2 hc pn s σ H _ us Q I ‹_› ⟨_, _, rfl, q _ _ (Same.refl _) (.int _)⟩
theorem c_abs : CallR X (.builtin "abs") (rC absD) := by
  intro pn s σ H xs us Q I r h
  obtain ⟨M, ds, d, dm, ra, e, q⟩ := h
  match ds, ra, e with
  | [.int i], .cons (.int _) .nil, e => cases e; exact call_abs pn s σ H _ us Q I ‹_› ⟨_, rfl, q _ _ (Same.refl _) (.int _)⟩
theorem dE_callB {x : Str} {p pos : Pos} {e : Expr} {es : List Expr} {id : String} {g : List D → Option D} {f : Rho → Option (List D)} {μ : Bool} (c : CallR X (.builtin id) (rC g)) (hg : Gl X x) (hm : X.mg x = none) (hv : bootBuiltins x = some (.builtin id)) (ha : PA X (e :: es) (tA μ f))
    (hn : x ≠ "__name__" := by decide) (hdb : (x == ("__debug__" : Str)) = false := by decide) (he : starEach (e :: es) X.env = (false, eval e X.env) :: starEach es X.env := by rfl) (hpl : (backTo pos (starEach es X.env)).any (·.1) = false := by rfl) :
    PE X (.Call (.Name x p) (e :: es) [] pos) (tD μ (eCall g f)) := (pe_callB c hg hm hv ha hn hdb he hpl).wk fun _ _ _ q => dCall q
theorem dE_callTy {x : Str} {p pos : Pos} {e : Expr} {es : List Expr} {T : String} {g : List D → Option D} {f : Rho → Option (List D)} {μ : Bool} (c : CallR X (.type T) (rC g)) (hg : Gl X x) (hm : X.mg x = none) (hv : bootBuiltins x = some (.type T)) (ha : PA X (e :: es) (tA μ f))
    (hn : x ≠ "__name__" := by decide) (hdb : (x == ("__debug__" : Str)) = false := by decide) (he : starEach (e :: es) X.env = (false, eval e X.env) :: starEach es X.env := by rfl) (hpl : (backTo pos (starEach es X.env)).any (·.1) = false := by rfl) :
    PE X (.Call (.Name x p) (e :: es) [] pos) (tD μ (eCall g f)) := (pe_callTy c hg hm hv ha hn hdb he hpl).wk fun _ _ _ q => dCall q
/-! isinstance -/
def tyN : D → String
  | .none => "NoneType"
  | .bool _ => "bool"
  | .int _ => "int"
  | .str _ => "str"
  | .list _ => "list"
  | .tuple _ => "tuple"
  | .dict _ => "dict"
def isTy (T : String) (d : D) : Option D := (kitB (tyN d) T).map .bool
theorem Rp.ty {K : PySem.W.Frag} {M : Addr → Prop} {H : Hp} {v : V} {d : D} (r : Rp M H v d) : TyX K H v (.type (tyN d)) := by
  cases r with
  | non => exact .base .non
  | bl b => exact .base (.bl b)
  | int i => exact .base (.int i)
  | str x hx => exact .base (.str x)
  | tup t n l r => obtain ⟨o, e, _⟩ := t; exact .fTuple e
  | lst t n l r => exact .base (.lst t)
  | dic t n => exact .base (.dK t)
theorem dE_isi {p pos : Pos} {e e2 : Expr} {T : String} {f : EF} {μ : Bool} (h : PE X e (tD μ f)) (hT : PE X e2 (tC (.ty T))) (hg : Gl X "isinstance") (hm : X.mg "isinstance" = none) (hv : bootBuiltins "isinstance" = some (.builtin "isinstance"))
    (he : starEach (e :: [e2]) X.env = (false, eval e X.env) :: starEach [e2] X.env := by rfl) (he2 : starEach (e2 :: []) X.env = (false, eval e2 X.env) :: starEach [] X.env := by rfl) (hpl : (backTo pos (starEach [e2] X.env)).any (·.1) = false := by rfl) :
    PE X (.Call (.Name "isinstance" p) [e, e2] [] pos) (tD μ (e1 (isTy T) f)) := (pe_callB call_isi hg hm hv (pa_cons h (pa_cons hT pa_nil he2) he) (by decide) (by decide) he hpl).wk fun σ H Q q => by
  obtain ⟨M0, H0, ρ, d, R, e, q⟩ := q
  obtain ⟨d1, e1, e⟩ := some_bind e
  obtain ⟨b, eb, rfl⟩ := some_map e
  exact ⟨M0, H0, ρ, d1, R, e1, fun v H1 s1 r1 => ⟨v, .ty T, .type (tyN d1), .type T, b, rfl, .ty T, r1.ty, kit_ty eb, q _ _ s1 (.bl _)⟩⟩
/-! signs of a text, one by one -/
def strL (z : Str) : List D := z.cps.toList.map fun c => .str ⟨#[c]⟩
def itStr (f : EF) : Rho → Option (List D) := fun ρ => (f ρ).bind fun d => match d with
  | .str z => some (strL z)
  | _ => none
theorem dI_str {tg e : Expr} {f : EF} {μ : Bool} (h : PE X e (tD μ f)) : PI X tg e (iD μ false (itStr f)) := (pi_str h).wk fun σ H R q => by
  obtain ⟨M0, H0, ρ, items, Rr, e, q⟩ := q
  obtain ⟨d, ed, e⟩ := some_bind e
  refine ⟨M0, H0, ρ, d, Rr, ed, fun v H1 s1 r1 => ?_⟩
  cases r1 <;> try (cases e; done)
  rename_i z l
  cases e
  have hl : (strL z).length = z.cps.size := by unfold strL; rw [List.length_map, Array.length_toList]
  refine ⟨z, rfl, q _ _ s1 fun M' hM => ⟨⟨_, _, by rw [hl]; exact walk_str, fun _ _ => trivial, fun i v Ha Hb k y => ?_⟩, by rw [hl]; exact l⟩⟩
  obtain ⟨rfl, c, ec, rfl⟩ := y
  refine ⟨.str ⟨#[c]⟩, ?_, Same.refl _, .inl (.str _ (show 1 ≤ sizeLine by decide))⟩
  unfold strL
  rw [List.getElem?_map, Array.getElem?_toList, ec]
  rfl
/-! tuple(range(n)), t * n -/
def tTupRg (te : L2.St → Hp → (Int → Int → Hp → Prop) → Prop) : TE := fun σ H Q => te σ H fun a b H1 => RgOk a b ∧ ∀ p H', H1 p = none → Same H1 H' → TupF H' p (rgV a b) → Q (.ref p) H'
theorem pe_tupRg {e : Expr} {te : L2.St → Hp → (Int → Int → Hp → Prop) → Prop} {p pos : Pos} (hc : X.calm = true) (hg : Gl X "tuple") (hm : X.mg "tuple" = none) (he : PRg X e te) (na : starEach [e] X.env = (false, eval e X.env) :: starEach [] X.env := by rfl) :
    PE X (.Call (.Name "tuple" p) [e] [] pos) (tTupRg te) := ⟨fun pn s σ H Q I h => Call_ (ld_blt I hg hm boot_tuple (callWith_type1 (args_cons (thn (he pn s σ H _ I h) fun x s1 ⟨r, a, b, t, u, v, H1, ex, hr, I1, ok, q⟩ => args_nil (by
    subst ex
    obtain ⟨b1, b2, b3, b4, b5⟩ := ok
    refine call_tuple_range (I1.ok.hd hc) hr (small_one b1 b2 b3 b4) (rangeSize_nat a b) b5 fun h' tk acc hk hi => ?_
    have J : L2.Inv X pn σ H1 { s1 with heap := h', toks := tk } := I1.kept (t' := tk) hk
    have J2 := Inv.tupF J (vals_rg hi) (by rw [rgV_length]; exact Nat.le_trans b5 (by decide))
    have fr := J.hok.fresh (Nat.le_refl h'.objs.size)
    rw [Array.toArray_toList] at J2
    exact ⟨.ref h'.objs.size, _, J2, rfl, q _ _ fr (smN fr) ⟨_, upd_same, rfl⟩⟩)) na) na) (by decide) (by decide)) rfl⟩
def eTupRg (f : EF) : EF := fun ρ => (f ρ).bind fun d => match d with
  | .int n => if -(2 ^ 62) ≤ n ∧ n < 2 ^ 20 then some (.tuple (rgD 0 n.toNat)) else none
  | _ => none
theorem rgV_rp {M : Addr → Prop} {H : Hp} (n : Int) : RpAll M H (rgV 0 n) (rgD 0 n.toNat) := by
  unfold rgV rgD
  rw [Int.sub_zero]
  induction (List.range n.toNat) with
  | nil => exact .nil
  | cons i r ih => exact .cons (.int _) ih
theorem dE_tupRg {e : Expr} {p pos p2 pos2 : Pos} {f : EF} {μ : Bool} (hc : X.calm = true) (hg : Gl X "tuple") (hm : X.mg "tuple" = none) (hg2 : Gl X "range") (hm2 : X.mg "range" = none) (h : PE X e (tD μ f)) (na : starEach [(Expr.Call (.Name "range" p2) [e] [] pos2)] X.env = (false, eval (Expr.Call (.Name "range" p2) [e] [] pos2) X.env) :: starEach [] X.env := by rfl) (nb : starEach [e] X.env = [(false, eval e X.env)] := by rfl) :
    PE X (.Call (.Name "tuple" p) [.Call (.Name "range" p2) [e] [] pos2] [] pos) (tD μ (eTupRg f)) := (pe_tupRg hc hg hm (prg_1 hg2 hm2 h nb) na).wk fun σ H Q q => by
  obtain ⟨M0, H0, ρ, d, R, e, q⟩ := q
  obtain ⟨d1, e1, e⟩ := some_bind e
  refine ⟨M0, H0, ρ, d1, R, e1, fun v H1 s1 r1 => ?_⟩
  cases r1 <;> try (cases e; done)
  rename_i n
  obtain ⟨l, rfl⟩ := iteS e
  refine ⟨n, rfl, ⟨by decide, by decide, l.1, by omega, by omega⟩, fun a H2 np s2 t => q _ _ (s1.trans s2) (.tup t (((R.mono s1).domu μ).not np) (by rw [rgV_length]; exact szR (by omega)) (rgV_rp n))⟩
/-- t * k -/
def rRepF : R2 := fun x y H Q => ∃ l k xs, x = .ref l ∧ y = .int k ∧ TupF H l xs ∧ xs ≠ [] ∧ 1 ≤ k ∧ k ≤ 1000 ∧ xs.length ≤ 1000 ∧ ∀ p H', (H p = none ∨ p = l) → Same H H' → TupF H' p (List.replicate k.toNat xs).flatten → Q (.ref p) H'
theorem arr_fold {α : Type} : ∀ (l : List (Array α)) (b : Array α), (l.foldl (fun x1 x2 => x1 ++ x2) b).toList = b.toList ++ (l.map Array.toList).flatten
  | [], b => by simp
  | a :: l, b => by
    rw [List.foldl_cons, arr_fold l, Array.toList_append, List.map_cons, List.flatten_cons, List.append_assoc]
theorem vals_rep {xs : List V} {us : List Value} (r : Vals xs us) : ∀ n : Nat, Vals (List.replicate n xs).flatten (List.replicate n us).flatten
  | 0 => .nil
  | n + 1 => by
    rw [List.replicate_succ, List.replicate_succ, List.flatten_cons, List.flatten_cons]
    exact r.append (vals_rep r n)
theorem rep_len {α : Type} {xs : List α} (n : Nat) : (List.replicate n xs).flatten.length = n * xs.length := by
  rw [List.length_flatten, List.map_replicate, List.sum_replicate_nat]
theorem op_repF : OpR X (binaryOp .Mult) rRepF := by
  intro pins s σ H x y v u Q I rx ry h
  obtain ⟨l, k, xs, rfl, rfl, hT, hne, h1, h2, hz, q⟩ := h
  cases rx
  obtain ⟨t, rfl⟩ := ry
  obtain ⟨its, r, ⟨⟨cls, dd, data, sl⟩, ho, hc, n, hd⟩, hs⟩ := I.tuple (hT.sq (K := X.K))
  simp only at hc hd
  subst hc hd
  by_cases e : k = 1
  · subst e
    refine wpAny_binaryOp_repeat_ref (T := "tuple") (U := "int") (by decide) ⟨_, ho, rfl⟩ (fun s' => typeIs_int s' 1 t) noFill_tuple_mul F.fills_int_mul F.slot_int_rmul repeat_tuple F.slot_int_index.lookup
      (call_meets F.slot_int_rmul (typeIs_int s 1 t) F.entry_int_rmul (F.args_int_rmul_2 _ _) (int_rmul_tuple 1 t l its.toArray n dd sl)
        ⟨ho, rfl, ⟨_, ho, rfl⟩, call_meets F.slot_tuple_mul ⟨_, ho, rfl⟩ F.entry_tuple_mul (F.args_tuple_mul_2 _ _) (tuple_mul1 l its.toArray n dd sl t (by simp)) ⟨ho, ?_⟩⟩)
    refine ⟨.ref l, H, I, rfl, q l H (.inr rfl) (Same.refl H) ?_⟩
    simpa using hT
  · have hl := r.length
    have n0 : 0 < its.length := by
      rw [← hl]
      exact List.length_pos_iff.mpr hne
    have ie : its.toArray.isEmpty = false := by
      cases its with
      | nil => exact absurd n0 (by decide)
      | cons a b => rfl
    have fl : (List.foldl (fun x1 x2 => x1 ++ x2) #[] (List.replicate k.toNat its.toArray)).toList = (List.replicate k.toNat its).flatten := by
      rw [arr_fold, List.map_replicate]
      simp
    have sz2 : (List.replicate k.toNat its).flatten.length ≤ sizeLine := by
      rw [rep_len]
      have h3 : k.toNat * its.length ≤ 1000 * 1000 := Nat.mul_le_mul (by omega) (by omega)
      exact Nat.le_trans h3 (by decide)
    have hb : (its.length : Int) * k ≤ 1000 * 1000 := Int.mul_le_mul (by omega) h2 (by omega) (by decide)
    have hb0 : 0 ≤ (its.length : Int) * k := Int.mul_nonneg (by omega) (by omega)
    refine wpAny_binaryOp_repeat_ref (T := "tuple") (U := "int") (by decide) ⟨_, ho, rfl⟩ (fun s' => typeIs_int s' k t) noFill_tuple_mul F.fills_int_mul F.slot_int_rmul repeat_tuple F.slot_int_index.lookup
      (call_meets F.slot_int_rmul (typeIs_int s k t) F.entry_int_rmul (F.args_int_rmul_2 _ _) (int_rmul_tuple k t l its.toArray n dd sl)
        ⟨ho, rfl, ⟨_, ho, rfl⟩, call_meets F.slot_tuple_mul ⟨_, ho, rfl⟩ F.entry_tuple_mul (F.args_tuple_mul_2 _ _) (tuple_mulW l its.toArray n dd sl k t (by simp; omega) (by rw [ie]; simpa using e) (by rw [ie]; simp; omega) ?_ ?_ ?_) ⟨ho, ?_⟩⟩)
    · rw [List.size_toArray]
      have : ((2 : Int) ^ 63 - 1) / 8 = 1152921504606846975 := by decide
      omega
    · rw [List.size_toArray]
      unfold Builtin.Tuple.tupleTooMany
      refine decide_eq_false ?_
      have : ((sizeLine : Nat) : Int) = 16777216 := by decide
      omega
    · rw [← Array.length_toList, fl]; exact sz2
    · have fr := I.hok.fresh (Nat.le_refl s.heap.objs.size)
      have J := Inv.tupF I (vals_rep r k.toNat) (by rw [rep_len, hl, ← rep_len]; exact sz2)
      rw [← fl, Array.toArray_toList] at J
      exact ⟨.ref s.heap.objs.size, _, J, rfl, q _ _ (.inl fr) (smN fr) ⟨_, upd_same, rfl⟩⟩
theorem RpAll.rep {M : Addr → Prop} {H : Hp} {vs : List V} {ds : List D} (h : RpAll M H vs ds) : ∀ n : Nat, RpAll M H (List.replicate n vs).flatten (List.replicate n ds).flatten
  | 0 => .nil
  | n + 1 => by
    rw [List.replicate_succ, List.replicate_succ, List.flatten_cons, List.flatten_cons]
    exact h.app (h.rep n)
def repS (z : Str) (n : Nat) : Str := ⟨(List.replicate n z.cps.toList).flatten.toArray⟩
def mulX : D → D → Option D
  | .int i, .int j => mulD (.int i) (.int j)
  | .tuple ds, .int k => if ds ≠ [] ∧ 1 ≤ k ∧ k ≤ 1000 ∧ ds.length ≤ 1000 then some (.tuple (List.replicate k.toNat ds).flatten) else none
  | .list ds, .int k => if 0 ≤ k ∧ k ≤ 1000 ∧ ds.length ≤ 1000 then some (.list (List.replicate k.toNat ds).flatten) else none
  | .str z, .int n => if 1 ≤ n ∧ n ≤ 100 ∧ 0 < z.length ∧ z.length ≤ 100 then some (.str (repS z n.toNat)) else none
  | _, _ => none
theorem o_mulX : OpR X (binaryOp .Mult) (rD mulX) := by
  intro pn s σ H x y v u Q I rx ry h
  obtain ⟨M, a, b, d, dm, ra, rb, e, q⟩ := h
  cases ra <;> cases rb <;> try (cases e; done)
  · exact o_mul pn s σ H _ _ v u Q I rx ry ⟨M, _, _, d, dm, .int _, .int _, e, q⟩
  · rename_i z hz n
    obtain ⟨l, rfl⟩ := iteS e
    refine op_repS pn s σ H _ _ v u Q I rx ry ⟨_, _, rfl, rfl, l.1, l.2.1, l.2.2.1, l.2.2.2, fun r hr _ => ?_⟩
    have : r = repS z n.toNat := by
      cases r with
      | mk a =>
        unfold repS
        congr
        rw [← Array.toArray_toList (xs := a), ← hr]
    rw [this]
    refine q _ _ (Same.refl _) (.str _ ?_)
    unfold repS
    show (List.toArray _).size ≤ _
    rw [List.size_toArray, rep_len, Array.length_toList]
    exact Nat.le_trans (Nat.mul_le_mul (show n.toNat ≤ 100 by omega) l.2.2.2) (by decide)
  · rename_i t n l r k
    obtain ⟨l2, rfl⟩ := iteS e
    have hl := r.len
    refine op_repF pn s σ H _ _ v u Q I rx ry ⟨_, _, _, rfl, rfl, t, fun z => l2.1 ?_, l2.2.1, l2.2.2.1, by rw [hl]; exact l2.2.2.2, fun p H' hp sm t' => q _ _ sm (.tup t' (fun m => ?_) ?_ ((r.mono (.of sm)).rep _))⟩
    · subst z; cases r; rfl
    · rcases hp with hp | hp
      · exact dm p m hp
      · rw [hp] at m; exact n m
    · rw [rep_len, hl]
      exact Nat.le_trans (Nat.mul_le_mul (show k.toNat ≤ 1000 by omega) l2.2.2.2) (by decide)
  · rename_i t n l r k
    obtain ⟨l2, rfl⟩ := iteS e
    have hl := r.len
    have hm : (List.length ‹List V›) * k.toNat ≤ sizeLine := by
      rw [hl]
      exact Nat.le_trans (Nat.mul_le_mul l2.2.2 (show k.toNat ≤ 1000 by omega)) (by decide)
    exact op_rep pn s σ H _ _ v u Q I rx ry ⟨_, _, _, rfl, rfl, t, by omega, by omega, hm, fun p hp => q _ _ (smN hp) (.lst upd_same (dm.not hp) (by rw [rep_len, Nat.mul_comm]; exact hm) ((r.mono (.of (smN hp))).rep _))⟩
end
end Dl
namespace Dl
open PySem PySem.Spec PyProof.Rows L2 Rt
/-! ### what is drawn from: a thing with a store of draws -/
abbrev Pl := Rt.Gd
def _root_.Rt.Gd.h (g : Rt.Gd) : V := .ref g.d
def _root_.Rt.Gd.own (g : Rt.Gd) (p : Addr) : Prop := p = g.d ∨ p = g.c ∨ p = g.r
def _root_.Rt.Gd.inv (g : Rt.Gd) (b : Nat) (H : Hp) : Prop := Fu g b H
theorem _root_.Rt.Gd.alive (g : Rt.Gd) {b : Nat} {H : Hp} {p : Addr} (i : g.inv b H) (o : g.own p) : H p ≠ none := fun e => by
  have f := Fu.off i e
  rcases o with o | o | o
  · exact f.d o
  · exact f.c o
  · exact f.r o
theorem _root_.Rt.Gd.loc (g : Rt.Gd) {b : Nat} {H H' : Hp} (i : g.inv b H) (h : ∀ p, g.own p → H' p = H p) : g.inv b H' := Fu.loc i (h _ (.inl rfl)) (h _ (.inr (.inl rfl))) (h _ (.inr (.inr rfl)))
theorem Pl.same {g : Pl} {b : Nat} {H H' : Hp} (i : g.inv b H) (s : Same H H') : g.inv b H' := g.loc i fun p o => by
  cases e : H p with
  | none => exact (g.alive i o e).elim
  | some u => exact s p u e
/-- readings that draw -/
structure WP (α : Type) where
  w : Rho → Nat → (α → Nat → Prop) → Prop
  m : ∀ {ρ b P Q}, (∀ a b', P a b' → Q a b') → w ρ b P → w ρ b Q
structure Rn (g : Pl) (M0 : Addr → Prop) (H0 H : Hp) (σ : L2.St) (ρ : Rho) (b : Nat) : Prop where
  kp : KpM g.own H0 H
  dom0 : Dom M0 H0
  dom : Dom M0 H
  pl : ∀ p, g.own p → M0 p
  iv : g.inv b H
  len : ρ.length = σ.length
  dat : ∀ (i : Nat) (d : D), ρ[i]? = some (some (.dat d)) → ∃ v, σ[i]? = some (some v) ∧ Rp (Mu true M0 σ ρ) H v d
  own : ∀ (i : Nat) (ds : List D), ρ[i]? = some (some (.own ds)) → ∃ p vs, σ[i]? = some (some (.ref p)) ∧ H p = some (.lst vs) ∧ H0 p = none ∧ vs.length ≤ sizeLine ∧ RpAll (Mu true M0 σ ρ) H vs ds
  raw : ∀ (i : Nat) (v : V), ρ[i]? = some (some (.raw v)) → σ[i]? = some (some v)
  pool : ∀ (i : Nat), ρ[i]? = some (some .pool) → σ[i]? = some (some g.h)
  inj : ∀ (i j : Nat) (a b : List D) (p : Addr), ρ[i]? = some (some (.own a)) → ρ[j]? = some (some (.own b)) → σ[i]? = some (some (.ref p)) → σ[j]? = some (some (.ref p)) → i = j
theorem Rn.up {g : Pl} {M0 : Addr → Prop} {H0 H : Hp} {σ : L2.St} {ρ : Rho} {b : Nat} (R : Rn g M0 H0 H σ ρ b) {H' : Hp} {b' : Nat} (k : KpM g.own H H') (iv : g.inv b' H') : Rn g M0 H0 H' σ ρ b' where
  kp := fun p o n e => k p o n (R.kp p o n e)
  dom0 := R.dom0
  dom := fun p m e => by
    by_cases o : g.own p
    · exact g.alive iv o e
    · cases z : H p with
      | none => exact R.dom p m z
      | some u => rw [k p u o z] at e; cases e
  pl := R.pl
  iv := iv
  len := R.len
  dat := fun i d e => by
    obtain ⟨v, a, c⟩ := R.dat i d e
    exact ⟨v, a, c.mono fun p o n e => k p o (fun z => n (.inl (R.pl p z))) e⟩
  own := fun i ds e => by
    obtain ⟨p, vs, a, c, z, l, r⟩ := R.own i ds e
    exact ⟨p, vs, a, k p _ (fun o => R.dom0 p (R.pl p o) z) c, z, l, r.mono fun p o n e => k p o (fun z => n (.inl (R.pl p z))) e⟩
  raw := R.raw
  pool := R.pool
  inj := R.inj
theorem Rn.mono {g : Pl} {M0 : Addr → Prop} {H0 H : Hp} {σ : L2.St} {ρ : Rho} {b : Nat} (R : Rn g M0 H0 H σ ρ b) {H' : Hp} (s : Same H H') : Rn g M0 H0 H' σ ρ b := R.up (.of s) (Pl.same R.iv s)
theorem Rn.domu {g : Pl} {M0 : Addr → Prop} {H0 H : Hp} {σ : L2.St} {ρ : Rho} {b : Nat} (R : Rn g M0 H0 H σ ρ b) (μ : Bool) : Dom (Mu μ M0 σ ρ) H := fun p m e => by
  rcases m with m | ⟨_, i, ds, e1, e2⟩
  · exact R.dom p m e
  · obtain ⟨q, vs, a, b, _⟩ := R.own i ds e1
    rw [e2] at a
    cases a
    rw [b] at e
    cases e
theorem KpM.tr {M : Addr → Prop} {H H1 H2 : Hp} (a : KpM M H H1) (b : KpM M H1 H2) : KpM M H H2 := fun p o n e => b p o n (a p o n e)
/-- the slots as a reading without draws sees them -/
theorem shut_nown {μ : Bool} {ρ : Rho} {i : Nat} {ds : List D} (e : (shutR μ ρ)[i]? = some (some (.own ds))) : False := by
  rcases seal_get e with ⟨_, z⟩ | ⟨_, _, _, z⟩
  · exact z ds rfl
  · cases z
theorem Rn.rs {g : Pl} {M0 : Addr → Prop} {H0 H : Hp} {σ : L2.St} {ρ : Rho} {b : Nat} (R : Rn g M0 H0 H σ ρ b) (μ : Bool) : Rs (Mu μ M0 σ ρ) H H σ (shutR μ ρ) := by
  have no : ∀ a, Mu true (Mu μ M0 σ ρ) σ (shutR μ ρ) a → Mu μ M0 σ ρ a := fun a m => by
    rcases m with m | ⟨_, i, ds, e, _⟩
    · exact m
    · exact (shut_nown e).elim
  refine ⟨Same.refl _, R.domu μ, by unfold shutR; rw [List.length_map]; exact R.len, fun i d e => ?_, fun i ds e => (shut_nown e).elim, fun i v e => ?_, fun i j a b p e => (shut_nown e).elim⟩
  · rcases seal_get e with ⟨e8, _⟩ | ⟨rfl, ds, e8, z9⟩
    · obtain ⟨v, a, c⟩ := R.dat i d e8
      exact ⟨v, a, c.reM fun a m => Mu.up a (no a m)⟩
    · cases z9
      obtain ⟨p, vs, a, c, z, l, r⟩ := R.own i ds e8
      refine ⟨.ref p, a, .lst c (fun m => ?_) l (r.reM fun a m => Mu.up a (no a m))⟩
      rcases no p m with m | ⟨z, _⟩
      · exact R.dom0 p m z
      · cases z
  · rcases seal_get e with ⟨e8, _⟩ | ⟨_, _, _, z9⟩
    · exact R.raw i v e8
    · cases z9
def tn (f : WP D) : TE := fun σ H Q => ∃ g M0 H0 ρ b, Rn g M0 H0 H σ ρ b ∧ f.w ρ b fun d b' => ∀ v H', KpM g.own H H' → g.inv b' H' → Rp (Mu true M0 σ ρ) H' v d → Q v H'
def tnA (f : WP (List D)) : TA := fun σ H Q => ∃ g M0 H0 ρ b, Rn g M0 H0 H σ ρ b ∧ f.w ρ b fun ds b' => ∀ vs H', KpM g.own H H' → g.inv b' H' → RpAll (Mu true M0 σ ρ) H' vs ds → Q vs H'
def tnT (f : WP Bool) : TT := fun σ H Q => ∃ g M0 H0 ρ b, Rn g M0 H0 H σ ρ b ∧ f.w ρ b fun k b' => ∀ H', KpM g.own H H' → g.inv b' H' → Q k H'
/-! readings -/
def wP {α : Type} (f : Rho → Option α) : WP α := ⟨fun ρ b Q => ∃ d, f (shutR true ρ) = some d ∧ Q d b, fun h ⟨d, e, q⟩ => ⟨d, e, h _ _ q⟩⟩
def wB {α β : Type} (f : WP α) (g : α → Option β) : WP β := ⟨fun ρ b Q => f.w ρ b fun a b' => ∃ d, g a = some d ∧ Q d b', fun h z => f.m (fun a b' ⟨d, e, q⟩ => ⟨d, e, h _ _ q⟩) z⟩
def w2 {α β γ : Type} (f : WP α) (g : WP β) (h : α → β → Option γ) : WP γ := ⟨fun ρ b Q => f.w ρ b fun a b1 => g.w ρ b1 fun c b2 => ∃ d, h a c = some d ∧ Q d b2, fun k z => f.m (fun a b' y => g.m (fun c b2 ⟨d, e, q⟩ => ⟨d, e, k _ _ q⟩) y) z⟩
section
variable {X : Cx} {K : PySem.W.Frag}
theorem nE_pure {e : Expr} {f : EF} (h : PE X e (tD true f)) : PE X e (tn (wP f)) := h.wk fun σ H Q q => by
  obtain ⟨g, M0, H0, ρ, b, R, d, e, q⟩ := q
  exact ⟨_, H, _, d, R.rs true, e, fun v H1 s1 r1 => q v H1 (.of s1) (Pl.same R.iv s1) (r1.reM fun a m => .inl (.inl m))⟩
def wL (f : EF) : WP D := ⟨fun ρ b Q => ∃ d, f (shutR false ρ) = some d ∧ nl d = true ∧ Q d b, fun h ⟨d, e, n, q⟩ => ⟨d, e, n, h _ _ q⟩⟩
theorem nE_loose {e : Expr} {f : EF} {μ : Bool} (h : PE X e (tD μ f)) : PE X e (tn (wL f)) := h.wk fun σ H Q q => by
  obtain ⟨g, M0, H0, ρ, b, R, d, e, n, q⟩ := q
  refine ⟨_, H, _, d, R.rs false, e, fun v H1 s1 r1 => q v H1 (.of s1) (Pl.same R.iv s1) ((r1.reM (M' := M0) fun a m => .inl (.inl (.inl m))).nl n fun a m => ?_)⟩
  rcases m with m | ⟨_, i, ds, e1, e2⟩
  · exact .inl m
  · obtain ⟨p, vs, x, y, _⟩ := (R.mono s1).own i ds e1
    rw [e2] at x
    cases x
    exact .inr ⟨_, y⟩
theorem nT_pure {e : Expr} {f : Rho → Option Bool} (h : PT X e (tT f)) : PT X e (tnT (wP f)) := h.wk fun σ H Q q => by
  obtain ⟨g, M0, H0, ρ, b, R, d, e, q⟩ := q
  exact ⟨_, H, _, d, R.rs true, e, fun H1 s1 => q H1 (.of s1) (Pl.same R.iv s1)⟩
def wTL (f : Rho → Option Bool) : WP Bool := ⟨fun ρ b Q => ∃ d, f (shutR false ρ) = some d ∧ Q d b, fun h ⟨d, e, q⟩ => ⟨d, e, h _ _ q⟩⟩
theorem nT_loose {e : Expr} {f : Rho → Option Bool} (h : PT X e (tT f)) : PT X e (tnT (wTL f)) := h.wk fun σ H Q q => by
  obtain ⟨g, M0, H0, ρ, b, R, d, e, q⟩ := q
  exact ⟨_, H, _, d, R.rs false, e, fun H1 s1 => q H1 (.of s1) (Pl.same R.iv s1)⟩
theorem nOp2 {g : D → D → Option D} {f1 f2 : WP D} {σ : L2.St} {H : Hp} {Q : VK} (q : tn (w2 f1 f2 g) σ H Q) : tOp (rD g) (tn f1) (tn f2) σ H Q := by
  obtain ⟨p, M0, H0, ρ, b, R, q⟩ := q
  refine ⟨p, M0, H0, ρ, b, R, f1.m (fun a b1 q x H1 k1 i1 r1 => ?_) q⟩
  refine ⟨p, M0, H0, ρ, b1, R.up k1 i1, f2.m (fun c b2 ⟨d, e, q⟩ y H2 k2 i2 r2 => ?_) q⟩
  exact ⟨_, a, c, d, ((R.up k1 i1).up k2 i2).domu true, r1.mono fun p o n e => k2 p o (fun z => n (.inl (R.pl p z))) e, r2, e, fun v H3 s3 r3 => q v H3 ((k1.tr k2).tr (.of s3)) (Pl.same i2 s3) r3⟩
theorem nE_op {a b : Expr} {op : Operator} {pos : Pos} {g : D → D → Option D} {f1 f2 : WP D} (o : OpR X (binaryOp op) (rD g)) (ha : PE X a (tn f1)) (hb : PE X b (tn f2)) : PE X (.BinOp a op b pos) (tn (w2 f1 f2 g)) := (pe_op o ha hb).wk fun _ _ _ q => nOp2 q
theorem nE_cmp {a b : Expr} {op : CmpOp} {pos : Pos} {g : D → D → Option D} {f1 f2 : WP D} (o : OpR X (compareOp op) (rD g)) (ha : PE X a (tn f1)) (hb : PE X b (tn f2)) (hm : behindInMarks op b = false) : PE X (.Compare a [op] [b] pos) (tn (w2 f1 f2 g)) := (pe_cmpR o ha hb hm).wk fun _ _ _ q => nOp2 q
theorem nE_ix {a b : Expr} {pos : Pos} {f1 f2 : WP D} (ha : PE X a (tn f1)) (hb : PE X b (tn f2)) (hp : PlainIx b := by exact fun _ _ => rfl) : PE X (.Subscript a b pos) (tn (w2 f1 f2 ixD)) := (pe_ix i_ix ha hb hp).wk fun _ _ _ q => nOp2 q
theorem nTest {f : WP D} {σ : L2.St} {H : Hp} {Q : Bool → Hp → Prop} (q : tnT (wB f bB) σ H Q) : tn f σ H (fun x H1 => ∃ c, x = V.bl c ∧ Q c H1) := by
  obtain ⟨p, M0, H0, ρ, b, R, q⟩ := q
  exact ⟨p, M0, H0, ρ, b, R, f.m (fun d b1 ⟨c, e, q⟩ v H1 k1 i1 r1 => ⟨c, r1.ofB e, q H1 k1 i1⟩) q⟩
theorem nT_cmp {a b : Expr} {op : CmpOp} {pos : Pos} {g : D → D → Option D} {f1 f2 : WP D} (o : OpR X (compareOp op) (rD g)) (ha : PE X a (tn f1)) (hb : PE X b (tn f2)) (hm : behindInMarks op b = false) : PT X (.Compare a [op] [b] pos) (tnT (wB (w2 f1 f2 g) bB)) := (pt_cmpR o ha hb hm).wk fun σ H Q q => nOp2 (nTest q)
theorem nT_val {e : Expr} {f : WP D} (h : PE X e (tn f)) (ht : ∀ (whole : Sem Value), PySem.isTrue e X.env whole = (do
          let v ← whole
          standAt e.pos
          holding [v] (truthy v)) := by intro _; rfl) : PT X e (tnT (wB f bB)) := (pt_val h ht).wk fun σ H Q q => nTest q
def wNot (f : WP Bool) : WP Bool := wB f fun b => some (!b)
theorem nT_not {a : Expr} {pos : Pos} {f : WP Bool} (h : PT X a (tnT f)) : PT X (.UnaryOp .Not a pos) (tnT (wNot f)) := (pt_not h).wk fun σ H Q q => by
  obtain ⟨p, M0, H0, ρ, b, R, q⟩ := q
  exact ⟨p, M0, H0, ρ, b, R, f.m (fun c b1 ⟨d, e, q⟩ H1 k1 i1 => by cases e; exact q H1 k1 i1) q⟩
def wAnd (f g : WP Bool) : WP Bool := ⟨fun ρ b Q => f.w ρ b fun c b1 => if c = true then g.w ρ b1 Q else Q false b1, fun h z => f.m (fun c b1 y => by
  cases c with
  | true => exact g.m h y
  | false => exact h _ _ y) z⟩
def wOr (f g : WP Bool) : WP Bool := ⟨fun ρ b Q => f.w ρ b fun c b1 => if c = true then Q true b1 else g.w ρ b1 Q, fun h z => f.m (fun c b1 y => by
  cases c with
  | true => exact h _ _ y
  | false => exact g.m h y) z⟩
theorem nW_and1 {a : Expr} {pos : Pos} {f : WP Bool} (h : PT X a (tnT f)) : PW X (.BoolOp .And [a] pos) (tnT f) := pw_and1 h
theorem nW_or1 {a : Expr} {pos : Pos} {f : WP Bool} (h : PT X a (tnT f)) : PW X (.BoolOp .Or [a] pos) (tnT f) := pw_or1 h
theorem nW_and {a b : Expr} {rest : List Expr} {pos : Pos} {f g : WP Bool} (ha : PT X a (tnT f)) (hb : PW X (.BoolOp .And (b :: rest) pos) (tnT g)) : PW X (.BoolOp .And (a :: b :: rest) pos) (tnT (wAnd f g)) := (pw_and ha hb).wk fun σ H Q q => by
  obtain ⟨p, M0, H0, ρ, b, R, q⟩ := q
  refine ⟨p, M0, H0, ρ, b, R, f.m (fun c b1 q H1 k1 i1 => ?_) q⟩
  cases c with
  | true => exact ⟨p, M0, H0, ρ, b1, R.up k1 i1, g.m (fun d b2 q H2 k2 i2 => q H2 (k1.tr k2) i2) q⟩
  | false => exact q H1 k1 i1
theorem nW_or {a b : Expr} {rest : List Expr} {pos : Pos} {f g : WP Bool} (ha : PT X a (tnT f)) (hb : PW X (.BoolOp .Or (b :: rest) pos) (tnT g)) : PW X (.BoolOp .Or (a :: b :: rest) pos) (tnT (wOr f g)) := (pw_or ha hb).wk fun σ H Q q => by
  obtain ⟨p, M0, H0, ρ, b, R, q⟩ := q
  refine ⟨p, M0, H0, ρ, b, R, f.m (fun c b1 q H1 k1 i1 => ?_) q⟩
  cases c with
  | true => exact q H1 k1 i1
  | false => exact ⟨p, M0, H0, ρ, b1, R.up k1 i1, g.m (fun d b2 q H2 k2 i2 => q H2 (k1.tr k2) i2) q⟩
def wIf {α : Type} (c : WP Bool) (f g : WP α) : WP α := ⟨fun ρ b Q => c.w ρ b fun k b1 => if k = true then f.w ρ b1 Q else g.w ρ b1 Q, fun h z => c.m (fun k b1 y => by
  cases k with
  | true => exact f.m h y
  | false => exact g.m h y) z⟩
theorem nE_if {a b c : Expr} {pos : Pos} {t : WP Bool} {f g : WP D} (hc : PT X c (tnT t)) (ha : PE X a (tn f)) (hb : PE X b (tn g)) : PE X (c.IfExp a b pos) (tn (wIf t f g)) := (pe_ifExp hc ha hb).wk fun σ H Q q => by
  obtain ⟨p, M0, H0, ρ, b, R, q⟩ := q
  refine ⟨p, M0, H0, ρ, b, R, t.m (fun k b1 q H1 k1 i1 => ?_) q⟩
  cases k with
  | true => exact ⟨p, M0, H0, ρ, b1, R.up k1 i1, f.m (fun d b2 q v H2 k2 i2 r2 => q v H2 (k1.tr k2) i2 r2) q⟩
  | false => exact ⟨p, M0, H0, ρ, b1, R.up k1 i1, g.m (fun d b2 q v H2 k2 i2 r2 => q v H2 (k1.tr k2) i2 r2) q⟩
def wNil : WP (List D) := ⟨fun _ b Q => Q [] b, fun h z => h _ _ z⟩
def wCons (f : WP D) (g : WP (List D)) : WP (List D) := w2 f g fun d ds => some (d :: ds)
theorem nA_nil : PA X [] (tnA wNil) := PA.weak pa_nil fun σ H Q q => by
  obtain ⟨p, M0, H0, ρ, b, R, q⟩ := q
  exact ⟨Q, q [] H .refl R.iv .nil, fun _ _ z => z⟩
theorem nA_cons {e : Expr} {es : List Expr} {f : WP D} {g : WP (List D)} (h : PE X e (tn f)) (hs : PA X es (tnA g)) (he : starEach (e :: es) X.env = (false, eval e X.env) :: starEach es X.env := by rfl) : PA X (e :: es) (tnA (wCons f g)) := PA.weak (pa_cons h hs he) fun σ H Q q => by
  obtain ⟨p, M0, H0, ρ, b, R, q⟩ := q
  refine ⟨Q, ⟨p, M0, H0, ρ, b, R, f.m (fun a b1 q x H1 k1 i1 r1 => ?_) q⟩, fun _ _ z => z⟩
  refine ⟨p, M0, H0, ρ, b1, R.up k1 i1, g.m (fun c b2 ⟨d, e, q⟩ y H2 k2 i2 r2 => ?_) q⟩
  cases e
  exact q _ H2 (k1.tr k2) i2 (.cons (r1.mono fun p o n e => k2 p o (fun z => n (.inl (R.pl p z))) e) r2)
def tupO (ds : List D) : Option D := if ds.length ≤ sizeLine then some (.tuple ds) else none
def lstO (ds : List D) : Option D := if ds.length ≤ sizeLine then some (.list ds) else none
theorem nE_tup {es : List Expr} {x1 : Nat} {pos : Pos} {g : WP (List D)} (h : PA X es (tnA g)) : PE X (.Tuple es x1 pos) (tn (wB g tupO)) := (pe_tupF h).wk fun σ H Q q => by
  obtain ⟨p, M0, H0, ρ, b, R, q⟩ := q
  refine ⟨p, M0, H0, ρ, b, R, g.m (fun ds b1 ⟨d, e, q⟩ vs H1 k1 i1 r1 => ?_) q⟩
  obtain ⟨l, rfl⟩ := iteS e
  exact ⟨by rw [r1.len]; exact l, fun a H2 np s2 t => q _ H2 (k1.tr (.of s2)) (Pl.same i1 s2) (.tup t (((R.up k1 i1).domu true).not np) (by rw [r1.len]; exact l) (r1.mono (.of s2)))⟩
theorem nE_lst {es : List Expr} {pos : Pos} {g : WP (List D)} (h : PA X es (tnA g)) : PE X (.List es pos) (tn (wB g lstO)) := (pe_lst h).wk fun σ H Q q => by
  obtain ⟨p, M0, H0, ρ, b, R, q⟩ := q
  refine ⟨p, M0, H0, ρ, b, R, g.m (fun ds b1 ⟨d, e, q⟩ vs H1 k1 i1 r1 => ?_) q⟩
  obtain ⟨l, rfl⟩ := iteS e
  exact ⟨by rw [r1.len]; exact l, fun a np => q _ _ (k1.tr (.of (smN np))) (Pl.same i1 (smN np)) (.lst upd_same (((R.up k1 i1).domu true).not np) (by rw [r1.len]; exact l) (r1.mono (.of (smN np))))⟩
theorem nCall {g : List D → Option D} {f : WP (List D)} {σ : L2.St} {H : Hp} {Q : VK} (q : tn (wB f g) σ H Q) : tCB (rC g) (tnA f) σ H Q := by
  obtain ⟨p, M0, H0, ρ, b, R, q⟩ := q
  refine ⟨p, M0, H0, ρ, b, R, f.m (fun ds b1 ⟨d, e, q⟩ vs H1 k1 i1 r1 => ?_) q⟩
  exact ⟨_, ds, d, (R.up k1 i1).domu true, r1, e, fun v H2 s2 r2 => q v H2 (k1.tr (.of s2)) (Pl.same i1 s2) r2⟩
theorem nE_cl {k n : Nat} {x : Str} {ps : List Str} {g : List D → Option D} {p pos : Pos} {e : Expr} {es : List Expr} {f : WP (List D)} (C : Cl X.prog X.w X.K X.mg X.base k x ps (spD n g)) (hr : Room k X.A) (hg : Gl X x) (ha : PA X (e :: es) (tnA f))
    (hdb : (x == ("__debug__" : Str)) = false := by decide) (he : starEach (e :: es) X.env = (false, eval e X.env) :: starEach es X.env := by rfl) (hpl : (backTo pos (starEach es X.env)).any (·.1) = false := by rfl) :
    PE X (.Call (.Name x p) (e :: es) [] pos) (tn (wB f (gN n g))) := (pe_cl C hr hg ha hdb he hpl).wk fun σ H Q q => by
  obtain ⟨p, M0, H0, ρ, b, R, q⟩ := q
  refine ⟨p, M0, H0, ρ, b, R, f.m (fun ds b1 ⟨d, e, q⟩ vs H1 k1 i1 r1 => ?_) q⟩
  unfold gN at e
  split at e
  · rename_i l
    rw [List.append_nil]
    exact ⟨_, ds, d, (R.up k1 i1).domu true, r1, l, e, fun v H2 s2 r2 => q v H2 (k1.tr (.of s2)) (Pl.same i1 s2) r2⟩
  · cases e
/-! a def that draws: its first argument is what is drawn from -/
structure GF where
  f : List D → Nat → (D → Nat → Prop) → Prop
  m : ∀ {ds b P Q}, (∀ d b', P d b' → Q d b') → f ds b P → f ds b Q
def spN (n : Nat) (F : GF) : Sp := fun vs H Q _ => ∃ (g : Pl) (M : Addr → Prop) (ws : List V) (ds : List D) (b : Nat), vs = g.h :: ws ∧ (∀ p, g.own p → M p) ∧ Dom M H ∧ g.inv b H ∧ RpAll M H ws ds ∧ ds.length = n ∧
  F.f ds b fun d b' => ∀ v H', KpM g.own H H' → g.inv b' H' → Rp M H' v d → Q v H'
def wCall (i n : Nat) (F : GF) (f : WP (List D)) : WP D := ⟨fun ρ b Q => ρ[i]? = some (some .pool) ∧ f.w ρ b fun ds b1 => ds.length = n ∧ F.f ds b1 Q, fun h z => ⟨z.1, f.m (fun ds b1 y => ⟨y.1, F.m h y.2⟩) z.2⟩⟩
theorem nE_draw {k n : Nat} {x : Str} {ps : List Str} {F : GF} {p pos : Pos} {e : Expr} {es : List Expr} {f : WP (List D)} {i : Nat} (C : Cl X.prog X.w X.K X.mg X.base k x ps (spN n F)) (hr : Room k X.A) (hg : Gl X x) (he0 : PE X e (tVar i)) (ha : PA X es (tnA f))
    (hdb : (x == ("__debug__" : Str)) = false := by decide) (he : starEach (e :: es) X.env = (false, eval e X.env) :: starEach es X.env := by rfl) (hpl : (backTo pos (starEach es X.env)).any (·.1) = false := by rfl) :
    PE X (.Call (.Name x p) (e :: es) [] pos) (tn (wCall i n F f)) := (pe_cl C hr hg (pa_cons he0 ha he) hdb he hpl).wk fun σ H Q q => by
  obtain ⟨p, M0, H0, ρ, b, R, ei, q⟩ := q
  refine ⟨_, R.pool i ei, p, M0, H0, ρ, b, R, f.m (fun ds b1 ⟨l, q⟩ vs H1 k1 i1 r1 => ?_) q⟩
  show spN n F ((p.h :: vs) ++ []) H1 Q E0
  rw [List.append_nil]
  exact ⟨p, _, vs, ds, b1, rfl, fun a o => .inl (R.pl a o), (R.up k1 i1).domu true, i1, r1, l, F.m (fun d b2 q v H2 k2 i2 r2 => q v H2 (k1.tr k2) i2 r2) q⟩
/-! ### walks and comprehensions -/
def inn (pr : Bool) (it : WP (List D)) : TI := fun σ H R => ∃ g M0 H0 ρ b, Rn g M0 H0 H σ ρ b ∧ it.w ρ b fun items b' => ∀ J H', KpM g.own H H' → g.inv b' H' → (∀ M', (∀ a, M' a → Mu true M0 σ ρ a ∨ H' a = none) → DW pr M' H' J items) → R J H'
theorem nI_pure {tg e : Expr} {pr : Bool} {it : Rho → Option (List D)} (h : PI X tg e (iD true pr it)) : PI X tg e (inn pr (wP it)) := h.wk fun σ H Q q => by
  obtain ⟨g, M0, H0, ρ, b, R, d, e, q⟩ := q
  exact ⟨_, H, _, d, R.rs true, e, fun J H1 s1 dw => q J H1 (.of s1) (Pl.same R.iv s1) fun M' hM => dw M' fun a m => (hM a m).elim (fun z => .inl (.inl z)) .inr⟩
def wI (it : Rho → Option (List D)) : WP (List D) := ⟨fun ρ b Q => ∃ d, it (shutR false ρ) = some d ∧ Q d b, fun h ⟨d, e, q⟩ => ⟨d, e, h _ _ q⟩⟩
theorem nI_ran1 {tg a : Expr} {p pos : Pos} {f : WP (List D)} (hg : Gl X "range") (hm : X.mg "range" = none) (ha : PA X [a] (tnA f)) (hs : starEach [a] X.env = [(false, eval a X.env)] := by rfl) : PI X tg (.Call (.Name "range" p) [a] [] pos) (inn false (wB f ran1D)) := (pi_range1 hg hm ha hs).wk fun σ H R q => by
  obtain ⟨p, M0, H0, ρ, b, Rr, q⟩ := q
  refine ⟨p, M0, H0, ρ, b, Rr, f.m (fun ds b1 ⟨d, e, q⟩ vs H1 k1 i1 r1 => ?_) q⟩
  cases r1 with
  | nil => cases e
  | cons h t =>
    cases t with
    | nil =>
      cases h <;> try (cases e; done)
      obtain ⟨l, rfl⟩ := iteS e
      exact ⟨_, rfl, l.1, by omega, q _ _ k1 i1 fun M' hM => DW.rng (szR (by omega))⟩
    | cons h2 t => cases h <;> cases e
theorem Rn.inner {g : Pl} {M0 : Addr → Prop} {H0 H H2 : Hp} {σ : L2.St} {ρ : Rho} {b b2 : Nat} {D : Addr} {acc : List V} (R : Rn g M0 H0 H σ ρ b) (hD : H D = none) (k : KpM g.own H H2) (i2 : g.inv b2 H2) (eD : H2 D = some (.lst acc)) (vs : List Nat) : Rn g (Mi true M0 σ ρ D) H2 H2 (wipe σ vs) (wipeR (shutR true ρ) vs) b2 := by
  have no : ∀ (vs : List Nat) a, Mu true (Mi true M0 σ ρ D) (wipe σ vs) (wipeR (shutR true ρ) vs) a → Mi true M0 σ ρ D a := fun vs a m => Mi.noOwn a m
  have nown : ∀ (vs : List Nat) (i : Nat) (ds : List Dl.D), (wipeR (shutR true ρ) vs)[i]? = some (some (.own ds)) → False := by
    intro vs
    induction vs with
    | nil => intro i ds e; exact shut_nown e
    | cons v vs ih =>
      intro i ds e
      rcases set_get (show ((wipeR (shutR true ρ) vs).set v none)[i]? = _ from e) with ⟨_, z⟩ | ⟨_, z⟩
      · cases z
      · exact ih i ds z
  have lv : ∀ (vs : List Nat) (i : Nat) (x : LV), (wipeR (shutR true ρ) vs)[i]? = some (some x) → ρ[i]? = some (some x) ∧ i ∉ vs := by
    intro vs
    induction vs with
    | nil =>
      intro i x e
      rcases seal_get (show (shutR true ρ)[i]? = _ from e) with ⟨e, _⟩ | ⟨z, _⟩
      · exact ⟨e, by simp⟩
      · cases z
    | cons v vs ih =>
      intro i x e
      rcases set_get (show ((wipeR (shutR true ρ) vs).set v none)[i]? = _ from e) with ⟨_, z⟩ | ⟨n, z⟩
      · cases z
      · have := ih i x z
        exact ⟨this.1, by simp only [List.mem_cons, not_or]; exact ⟨fun w => n w.symm, this.2⟩⟩
  have dm : Dom (Mi true M0 σ ρ D) H2 := fun p m => by
    rcases m with m | rfl
    · exact (R.up k i2).domu true p m
    · rw [eD]; intro z; cases z
  refine ⟨.refl, dm, dm, fun p o => .inl (.inl (R.pl p o)), i2, ?_, fun i d e => ?_, fun i ds e => (nown vs i ds e).elim, fun i v e => ?_, fun i e => ?_, fun i j a b p e => (nown vs i _ e).elim⟩
  · have : ∀ vs : List Nat, (wipeR (shutR true ρ) vs).length = ρ.length := by
      intro vs
      induction vs with
      | nil => unfold wipeR shutR; rw [List.length_map]
      | cons v vs ih => unfold wipeR; rw [List.length_set, ih]
    rw [this, wipe_len, R.len]
  · obtain ⟨e1, nv⟩ := lv vs i _ e
    obtain ⟨v, a, c⟩ := R.dat i d e1
    refine ⟨v, by rw [wipe_get nv]; exact a, (c.reM (M' := Mu true (Mi true M0 σ ρ D) (wipe σ vs) (wipeR (shutR true ρ) vs)) fun a m => ?_).mono fun p o n e => k p o (fun z => n (.inl (.inl (.inl (R.pl p z))))) e⟩
    rcases no vs a m with m | rfl
    · exact .inl m
    · exact .inr hD
  · obtain ⟨e1, nv⟩ := lv vs i _ e
    rw [wipe_get nv]
    exact R.raw i v e1
  · obtain ⟨e1, nv⟩ := lv vs i _ e
    rw [wipe_get nv]
    exact R.pool i e1
theorem Rn.set {g : Pl} {M0 : Addr → Prop} {H0 H : Hp} {σ : L2.St} {ρ : Rho} {b : Nat} {i : Nat} {v : V} {d : D} (R : Rn g M0 H0 H σ ρ b) (r : Rp (Mu true M0 σ ρ) H v d) : Rn g M0 H0 H (σ.set i (some v)) (ρ.set i (some (.dat d))) b := by
  have sh : ∀ a, Mu true M0 (σ.set i (some v)) (ρ.set i (some (.dat d))) a → Mu true M0 σ ρ a ∨ H a = none := fun a m => .inl (Mu.shrink (fun ds e => by cases e) a m)
  refine ⟨R.kp, R.dom0, R.dom, R.pl, R.iv, by rw [List.length_set, List.length_set]; exact R.len, fun j d' e => ?_, fun j ds e => ?_, fun j w e => ?_, fun j e => ?_, fun j k a b p e1 e2 e3 e4 => ?_⟩
  · rcases set_get e with ⟨rfl, e9⟩ | ⟨n, e⟩
    · cases e9
      have hl : i < ρ.length := by
        have := (List.getElem?_eq_some_iff.mp e).1
        rwa [List.length_set] at this
      exact ⟨v, set_same (by rw [← R.len]; exact hl), r.reM sh⟩
    · obtain ⟨w, x, y⟩ := R.dat j d' e
      exact ⟨w, by rw [set_other n]; exact x, y.reM sh⟩
  · rcases set_get e with ⟨rfl, e9⟩ | ⟨n, e⟩
    · cases e9
    · obtain ⟨p, vs, x, y, z, l, w⟩ := R.own j ds e
      exact ⟨p, vs, by rw [set_other n]; exact x, y, z, l, w.reM sh⟩
  · rcases set_get e with ⟨rfl, e9⟩ | ⟨n, e⟩
    · cases e9
    · rw [set_other n]; exact R.raw j w e
  · rcases set_get e with ⟨rfl, e9⟩ | ⟨n, e⟩
    · cases e9
    · rw [set_other n]; exact R.pool j e
  · rcases set_get e1 with ⟨rfl, e⟩ | ⟨n1, f1⟩
    · cases e
    rcases set_get e2 with ⟨rfl, e⟩ | ⟨n2, f2⟩
    · cases e
    rw [set_other n1] at e3
    rw [set_other n2] at e4
    exact R.inj j k a b p f1 f2 e3 e4
mutual
theorem bindP.okN {K : PySem.W.Frag} {g : Pl} {M0 : Addr → Prop} {H0 H : Hp} {b : Nat} : ∀ {p : Pat} {σ : L2.St} {ρ ρ' : Rho} {v : V} {d : D} {Q : L2.St → Hp → Prop} {pr : Bool}, Rn g M0 H0 H σ ρ b → RpI pr (Mu true M0 σ ρ) H v d → p.fits pr = true → bindP p d ρ = some ρ' →
    (∀ σ', Rn g M0 H0 H σ' ρ' b → Bnd M0 σ ρ (slP p) σ' ρ' → Q σ' H) → gP K p v σ H Q
  | .nm i, σ, ρ, ρ', v, d, Q, pr, R, r, ft, e, q => by
    have hpr : pr = false := by cases pr <;> first | rfl | cases ft
    subst hpr
    have r : Rp (Mu true M0 σ ρ) H v d := by
      rcases r with r | ⟨z, _⟩
      · exact r
      · cases z
    unfold bindP at e
    obtain ⟨l, rfl⟩ := iteS e
    refine q _ (R.set r) ⟨fun j hj => set_other fun z => hj (by rw [z]; exact List.mem_singleton.mpr rfl), List.length_set .., Mu.shrink fun ds e => by cases e⟩
  | .tp ps, σ, ρ, ρ', v, d, Q, pr, R, r, ft, e, q => by
    rcases r with r | ⟨_, a, xs, ds, rfl, rfl, t, r⟩
    · cases r <;> try (cases e; done)
      rename_i xs ds t n l r
      have hl := bindPs.len (show bindPs ps ds ρ = some ρ' from e)
      exact ⟨_, xs, rfl, t.sq, by rw [r.len]; exact hl, bindPs.okN R r e q⟩
    · have hl := bindPs.len (show bindPs ps ds ρ = some ρ' from e)
      exact ⟨_, xs, rfl, SqT.of t, by rw [r.len]; exact hl, bindPs.okN R r e q⟩
theorem bindPs.okN {K : PySem.W.Frag} {g : Pl} {M0 : Addr → Prop} {H0 H : Hp} {b : Nat} : ∀ {ps : Pats} {σ : L2.St} {ρ ρ' : Rho} {vs : List V} {ds : List D} {Q : L2.St → Hp → Prop}, Rn g M0 H0 H σ ρ b → RpAll (Mu true M0 σ ρ) H vs ds → bindPs ps ds ρ = some ρ' →
    (∀ σ', Rn g M0 H0 H σ' ρ' b → Bnd M0 σ ρ (slPs ps) σ' ρ' → Q σ' H) → gPs K ps vs σ H Q
  | .nil, σ, ρ, ρ', vs, ds, Q, R, r, e, q => by
    cases r with
    | nil => cases e; exact ⟨rfl, q σ R ⟨fun _ _ => rfl, rfl, fun a m => m⟩⟩
    | cons h t => cases e
  | .cons p ps, σ, ρ, ρ', vs, ds, Q, R, r, e, q => by
    cases r with
    | nil => cases e
    | cons h t =>
      unfold bindPs at e
      obtain ⟨ρ1, e1, e⟩ := some_bind e
      refine ⟨_, _, rfl, bindP.okN (pr := false) R (.inl h) (by cases p <;> rfl) e1 fun σ1 R1 B1 => ?_⟩
      refine bindPs.okN R1 (t.reM fun a m => .inl (B1.mu a m)) e fun σ2 R2 B2 => q σ2 R2 ⟨fun j hj => ?_, B2.len.trans B1.len, fun a m => B1.mu a (B2.mu a m)⟩
      have hj : j ∉ slP p ++ slPs ps := hj
      rw [List.mem_append, not_or] at hj
      rw [B2.oth j hj.2, B1.oth j hj.1]
end
def lcN (p : Pat) (c : WP Bool) (f : WP D) (ρ : Rho) : List D → Nat → (List D → Nat → Prop) → Prop
  | [], b, Q => Q [] b
  | x :: xs, b, Q => ∃ ρ1, bindP p x ρ = some ρ1 ∧ c.w ρ1 b fun k b1 => if k = true then f.w ρ1 b1 fun d b2 => lcN p c f ρ xs b2 fun r b3 => Q (d :: r) b3 else lcN p c f ρ xs b1 Q
theorem lcN.mono {p : Pat} {c : WP Bool} {f : WP D} {ρ : Rho} : ∀ {xs : List D} {b : Nat} {P Q : List D → Nat → Prop}, (∀ r b, P r b → Q r b) → lcN p c f ρ xs b P → lcN p c f ρ xs b Q
  | [], _, _, _, h, z => h _ _ z
  | x :: xs, b, P, Q, h, ⟨ρ1, e, z⟩ => ⟨ρ1, e, c.m (fun k b1 y => by
      cases k with
      | true => exact f.m (fun d b2 y => lcN.mono (fun r b3 y => h _ _ y) y) y
      | false => exact lcN.mono h y) z⟩
def wLc (vs : List Nat) (it : WP (List D)) (p : Pat) (c : WP Bool) (f : WP D) : WP D := ⟨fun ρ b Q => it.w ρ b fun items b1 => lcN p c f (wipeR (shutR true ρ) vs) items b1 fun r b2 => Q (.list r) b2, fun h z => it.m (fun items b1 y => lcN.mono (fun r b2 y => h _ _ y) y) z⟩
theorem lcCoreN {g : Pl} {pr : Bool} {M0 : Addr → Prop} {H0 H1 : Hp} {σ : L2.St} {ρ : Rho} {b : Nat} {J : It} {items : List D} {p : Pat} {c : WP Bool} {f : WP D} {vs : List Nat} {D : Addr} {Qd : Hp → Prop} {P : List Dl.D → Nat → Prop}
    (R : Rn g M0 H0 H1 σ ρ b) (dw : ∀ M', (∀ a, M' a → Mu true M0 σ ρ a ∨ H1 a = none) → DW pr M' H1 J items) (hD : H1 D = none) (hp : p.fits pr = true) (hs : ∀ j, j ∈ slP p → j ∈ vs) (e : lcN p c f (wipeR (shutR true ρ) vs) items b P)
    (q : ∀ H acc res b', KpM g.own H1 H → g.inv b' H → H D = some (.lst acc) → acc.length ≤ sizeLine → RpAll (Mi true M0 σ ρ D) H acc res → P res b' → Qd H) :
    ∃ W : Nat → Nat → Hp → Prop, (∃ m, W 0 m (upd H1 D (.lst []))) ∧ ∀ i m H, W i m H →
      (J.stop i H ∧ Qd H) ∨ (J.go i H ∧ ∃ Nx : Hp → Prop, (∀ H', Nx H' → ∃ m', m' < m ∧ W (i + 1) m' H') ∧ ∀ x H', J.yld i H x H' → gP K p x (wipe σ vs) H' fun σ2 H2 => wipe σ2 vs = wipe σ vs ∧ tnT c σ2 H2 fun b H3 =>
        if b = true then tn f σ2 H3 fun y H4 => ∃ acc, H4 D = some (.lst acc) ∧ acc.length < sizeLine ∧ Nx (upd H4 D (.lst (acc ++ [y]))) else Nx H3) := by
  have dw := dw (Mi true M0 σ ρ D) fun a m => m.elim .inl fun z => .inr (by rw [z]; exact hD)
  have sz := dw.sz
  obtain ⟨G, Y, W, hG, hY⟩ := dw.ex
  have pI : ∀ {H H' : Hp}, KpM g.own H H' → KpM (Mi true M0 σ ρ D) H H' := fun k p o n e => k p o (fun z => n (.inl (.inl (R.pl p z)))) e
  have gD : ¬ g.own D := fun o => R.dom D (R.pl D o) hD
  refine lc_it W (fun i H => KpM g.own H1 H ∧ ∃ acc done b', H D = some (.lst acc) ∧ acc.length ≤ i ∧ g.inv b' H ∧ RpAll (Mi true M0 σ ρ D) H acc done ∧ lcN p c f (wipeR (shutR true ρ) vs) (items.drop i) b' fun r b3 => P (done ++ r) b3) ⟨.of (smN hD), [], [], b, upd_same, Nat.le_refl _, Pl.same R.iv (smN hD), .nil, e⟩ (fun i H hi h => hG H (pI h.1)) (fun i v H H' hi h y => ?_) (fun H h => ?_)
  · obtain ⟨sm, acc, done, b1, eD, la, iv, ra, er⟩ := h
    obtain ⟨d, ed, s2, rv⟩ := hY i v H H' (pI sm) y
    rw [drop_at ed] at er
    unfold lcN at er
    obtain ⟨ρ1, e1, er⟩ := er
    have Rin := R.inner hD (sm.tr (.of s2)) (Pl.same iv s2) (s2 _ _ eD) vs
    refine bindP.okN (pr := pr) Rin ?_ hp e1 fun σ2 R2 B2 => ⟨wipe_eq B2.oth B2.len hs, _, _, _, ρ1, b1, R2, c.m (fun k b2 er H3 k3 i3 => ?_) er⟩
    · rcases rv with rv | ⟨zp, a, xs, ds, z1, z2, z3, z4⟩
      · exact .inl (rv.reM fun a m => .inl (Mi.noOwn a m))
      · exact .inr ⟨zp, a, xs, ds, z1, z2, z3, z4.reM fun a m => .inl (Mi.noOwn a m)⟩
    have k23 : KpM g.own H H3 := (KpM.of s2).tr k3
    cases k with
    | true =>
      refine ⟨_, _, _, ρ1, b2, R2.up k3 i3, f.m (fun dv b3 er y H4 k4 i4 r4 => ?_) er⟩
      have k24 := k23.tr k4
      have eD4 := k24 _ _ gD eD
      have kp : KpM (Mi true M0 σ ρ D) H4 (upd H4 D (.lst (acc ++ [y]))) := fun q o n e => by
        rw [upd_ne (fun z => n (.inr z))]
        exact e
      have r4 : Rp (Mi true M0 σ ρ D) H4 y dv := r4.reM fun a m => .inl (.inl m)
      refine ⟨acc, eD4, by omega, fun q o n e => ?_, acc ++ [y], done ++ [dv], b3, upd_same, by rw [List.length_append]; simp; omega, g.loc i4 fun p o => upd_ne fun z => gD (by rw [← z]; exact o), ?_, lcN.mono (fun r b z => by rw [List.append_assoc]; exact z) er⟩
      · rw [upd_ne (ne_of_none e hD)]
        exact (sm.tr k24) _ _ n e
      · exact ((ra.mono (pI k24)).mono kp).app (.cons (r4.mono kp) .nil)
    | false =>
      exact ⟨sm.tr k23, acc, done, b2, k23 _ _ gD eD, by omega, i3, ra.mono (pI k23), er⟩
  · obtain ⟨sm, acc, done, b1, eD, la, iv, ra, er⟩ := h
    rw [List.drop_length] at er
    have er : P (done ++ []) b1 := er
    rw [List.append_nil] at er
    exact q H acc done b1 sm iv eD (by omega) ra er
def wYes : WP Bool := ⟨fun _ b Q => Q true b, fun h z => h _ _ z⟩
theorem nTs_nil : PTs X [] (tnT wYes) := pts_nil.wk fun σ H Q q => by
  obtain ⟨p, M0, H0, ρ, b, R, q⟩ := q
  exact q H .refl R.iv
theorem nLcE {it : WP (List D)} {p : Pat} {c : WP Bool} {f : WP D} {vs : List Nat} {pr : Bool} (hp : p.fits pr = true) (hs : ∀ j, j ∈ slP p → j ∈ vs) {σ : L2.St} {H : Hp} {Q : VK} (q : tn (wLc vs it p c f) σ H Q) : tLc (inn pr it) (gP K p) (tnT c) (tn f) vs σ H Q := by
  obtain ⟨g, M0, H0, ρ, b, R, q⟩ := q
  refine ⟨g, M0, H0, ρ, b, R, it.m (fun items b1 q J H1 k1 i1 dw D hD => ?_) q⟩
  exact lcCoreN (R.up k1 i1) dw hD hp hs q fun H2 acc res b2 k2 i2 eD la ra q => q _ _ (k1.tr k2) i2 (.lst eD (((R.up k1 i1).domu true).not hD) la (ra.reM fun a m => .inl (.inl m)))
/-- a new list, with draws -/
def tnN (f : WP D) : TE := fun σ H Q => ∃ g M0 H0 ρ b, Rn g M0 H0 H σ ρ b ∧ f.w ρ b fun d b' => ∃ ds, d = .list ds ∧ ∀ p vs H', H p = none → KpM g.own H H' → g.inv b' H' → H' p = some (.lst vs) → vs.length ≤ sizeLine → RpAll (Mi true M0 σ ρ p) H' vs ds → Q (.ref p) H'
theorem nLcN {it : WP (List D)} {p : Pat} {c : WP Bool} {f : WP D} {vs : List Nat} {pr : Bool} (hp : p.fits pr = true) (hs : ∀ j, j ∈ slP p → j ∈ vs) {σ : L2.St} {H : Hp} {Q : VK} (q : tnN (wLc vs it p c f) σ H Q) : tLc (inn pr it) (gP K p) (tnT c) (tn f) vs σ H Q := by
  obtain ⟨g, M0, H0, ρ, b, R, q⟩ := q
  refine ⟨g, M0, H0, ρ, b, R, it.m (fun items b1 q J H1 k1 i1 dw D hD => ?_) q⟩
  have nD : H D = none := by
    cases z : H D with
    | none => rfl
    | some o =>
      by_cases ow : g.own D
      · exact ((g.alive i1 ow) hD).elim
      · rw [k1 _ _ ow z] at hD; cases hD
  exact lcCoreN (R.up k1 i1) dw hD hp hs q fun H2 acc res b2 k2 i2 eD la ra ⟨ds, z, q⟩ => by
    cases z
    exact q D acc H2 nD (k1.tr k2) i2 eD la ra
end
end Dl
namespace Dl
open PySem PySem.Spec PyProof.Rows L2 Rt
/-! ### statements that draw -/
def PostN (g : Pl) (M0 : Addr → Prop) (H0 : Hp) (σ : L2.St) (ρ : Rho) (H : Hp) (Dn : Ends) : Out → Nat → Prop
  | .nx ρ', b => ∀ σ' H', Rn g M0 H0 H' σ' ρ' b → Stp M0 σ ρ H σ' ρ' H' → Dn.nx σ' H'
  | .rt d, b => ∀ v H', KpM g.own H0 H' → g.inv b H' → Rp M0 H' v d → Dn.rt v H'
  | .bk ρ', b => ∀ σ' H', Rn g M0 H0 H' σ' ρ' b → Stp M0 σ ρ H σ' ρ' H' → Dn.bk σ' H'
  | .ct ρ', b => ∀ σ' H', Rn g M0 H0 H' σ' ρ' b → Stp M0 σ ρ H σ' ρ' H' → Dn.ct σ' H'
theorem PostN.from {g : Pl} {M0 : Addr → Prop} {H0 : Hp} {σ σ1 : L2.St} {ρ ρ1 : Rho} {H H1 : Hp} {Dn : Ends} {o : Out} {b : Nat} (st : Stp M0 σ ρ H σ1 ρ1 H1) (p : PostN g M0 H0 σ ρ H Dn o b) : PostN g M0 H0 σ1 ρ1 H1 Dn o b := by
  cases o with
  | nx ρ' => exact fun σ' H' R s => p σ' H' R (st.trans s)
  | rt d => exact p
  | bk ρ' => exact fun σ' H' R s => p σ' H' R (st.trans s)
  | ct ρ' => exact fun σ' H' R s => p σ' H' R (st.trans s)
def tSn (f : WP Out) : TS := fun Dn σ H => ∃ g M0 H0 ρ b, Rn g M0 H0 H σ ρ b ∧ f.w ρ b fun o b' => PostN g M0 H0 σ ρ H Dn o b'
theorem Rn.stp {g : Pl} {M0 : Addr → Prop} {H0 H H' : Hp} {σ : L2.St} {ρ : Rho} {b : Nat} (R : Rn g M0 H0 H σ ρ b) (k : KpM g.own H H') : Stp M0 σ ρ H σ ρ H' := ⟨fun p o n e => k p o (fun z => n (.inl (R.pl p z))) e, fun p m => .inl m⟩
section
variable {X : Cx} {K : PySem.W.Frag}
def swAsg (p : Pat) (f : WP D) : WP Out := ⟨fun ρ b Q => f.w ρ b fun d b' => ∃ ρ1, bindP p d ρ = some ρ1 ∧ Q (.nx ρ1) b', fun h z => f.m (fun d b' ⟨ρ1, e, y⟩ => ⟨ρ1, e, h _ _ y⟩) z⟩
theorem nS_asg {st : Stmt} {p : Pat} {f : WP D} (h : PS X st (tAsg (tn f) (gP K p))) : PS X st (tSn (swAsg p f)) := h.wk fun Dn σ H q => by
  obtain ⟨g, M0, H0, ρ, b, R, q⟩ := q
  refine ⟨g, M0, H0, ρ, b, R, f.m (fun d b' ⟨ρ1, e1, q⟩ v H1 k1 i1 r1 => ?_) q⟩
  exact bindP.okN (pr := false) (R.up k1 i1) (.inl r1) (by cases p <;> rfl) e1 fun σ1 R1 B1 => q σ1 H1 R1 ((R.stp k1).trans ⟨.refl, fun p m => .inl (B1.mu p m)⟩)
def swRet (f : WP D) : WP Out := ⟨fun ρ b Q => f.w ρ b fun d b' => Q (.rt d) b', fun h z => f.m (fun d b' y => h _ _ y) z⟩
theorem nS_ret {st : Stmt} {f : WP D} (h : PS X st (tRet (tn f))) : PS X st (tSn (swRet f)) := h.wk fun Dn σ H q => by
  obtain ⟨g, M0, H0, ρ, b, R, q⟩ := q
  exact ⟨g, M0, H0, ρ, b, R, f.m (fun d b' q v H1 k1 i1 r1 => q v H1 (R.kp.tr k1) i1 (r1.reM Mu.lo)) q⟩
def swRetL (f : EF) : WP Out := ⟨fun ρ b Q => ∃ d, f (shutR false ρ) = some d ∧ Q (.rt d) b, fun h ⟨d, e, y⟩ => ⟨d, e, h _ _ y⟩⟩
theorem nS_retL {st : Stmt} {f : EF} {μ : Bool} (h : PS X st (tRet (tD μ f))) : PS X st (tSn (swRetL f)) := h.wk fun Dn σ H q => by
  obtain ⟨g, M0, H0, ρ, b, R, d, e, q⟩ := q
  exact ⟨_, H, _, d, R.rs false, e, fun v H1 s1 r1 => q v H1 (R.kp.tr (.of s1)) (Pl.same R.iv s1) (r1.reM fun a m => .inl (.inl (.inl m)))⟩
def swIf (c : WP Bool) (f g : WP Out) : WP Out := wIf c f g
theorem nS_if {c : Expr} {a b : List Stmt} {pos : Pos} {t : WP Bool} {f g : WP Out} (hc : PT X c (tnT t)) (ha : PSs X a (tSn f)) (hb : PSs X b (tSn g)) : PS X (.If c a b pos) (tSn (swIf t f g)) := (ps_if hc ha hb).wk fun Dn σ H q => by
  obtain ⟨p, M0, H0, ρ, b, R, q⟩ := q
  refine ⟨p, M0, H0, ρ, b, R, t.m (fun k b1 q H1 k1 i1 => ?_) q⟩
  cases k with
  | true => exact ⟨p, M0, H0, ρ, b1, R.up k1 i1, f.m (fun o b2 q => q.from (R.stp k1)) q⟩
  | false => exact ⟨p, M0, H0, ρ, b1, R.up k1 i1, g.m (fun o b2 q => q.from (R.stp k1)) q⟩
def swSeq (f g : WP Out) : WP Out := ⟨fun ρ b Q => f.w ρ b fun o b1 => match o with
  | .nx ρ' => g.w ρ' b1 Q
  | o => Q o b1, fun h z => f.m (fun o b1 y => by
    cases o with
    | nx ρ' => exact g.m h y
    | rt d => exact h _ _ y
    | bk ρ' => exact h _ _ y
    | ct ρ' => exact h _ _ y) z⟩
theorem nSs_cons {st : Stmt} {rest : List Stmt} {f g : WP Out} (h : PS X st (tSn f)) (hs : PSs X rest (tSn g)) : PSs X (st :: rest) (tSn (swSeq f g)) := (pss_cons h hs).wk fun Dn σ H q => by
  obtain ⟨p, M0, H0, ρ, b, R, q⟩ := q
  refine ⟨p, M0, H0, ρ, b, R, f.m (fun o b1 q => ?_) q⟩
  cases o with
  | nx ρ' => exact fun σ' H' R' s => ⟨p, M0, H0, ρ', b1, R', g.m (fun o b2 q => q.from s) q⟩
  | rt d => exact q
  | bk ρ' => exact q
  | ct ρ' => exact q
theorem nSs_one {st : Stmt} {f : WP Out} (h : PS X st (tSn f)) : PSs X [st] (tSn f) := pss_one h
def swNil : WP Out := ⟨fun ρ b Q => Q (.nx ρ) b, fun h z => h _ _ z⟩
theorem nSs_nil : PSs X [] (tSn swNil) := pss_nil.wk fun Dn σ H q => by
  obtain ⟨p, M0, H0, ρ, b, R, q⟩ := q
  exact q σ H R .refl
def forN (p : Pat) (body : WP Out) : List D → Rho → Nat → (Out → Nat → Prop) → Prop
  | [], ρ, b, Q => Q (.nx ρ) b
  | x :: xs, ρ, b, Q => ∃ ρ1, bindP p x ρ = some ρ1 ∧ body.w ρ1 b fun o b1 => match o with
    | .nx ρ2 => forN p body xs ρ2 b1 Q
    | .ct ρ2 => forN p body xs ρ2 b1 Q
    | .bk ρ2 => Q (.nx ρ2) b1
    | .rt d => Q (.rt d) b1
theorem forN.mono {p : Pat} {body : WP Out} : ∀ {xs : List D} {ρ : Rho} {b : Nat} {P Q : Out → Nat → Prop}, (∀ o b, P o b → Q o b) → forN p body xs ρ b P → forN p body xs ρ b Q
  | [], _, _, _, _, h, z => h _ _ z
  | x :: xs, ρ, b, P, Q, h, ⟨ρ1, e, z⟩ => ⟨ρ1, e, body.m (fun o b1 y => by
      cases o with
      | nx ρ2 => exact forN.mono h y
      | ct ρ2 => exact forN.mono h y
      | bk ρ2 => exact h _ _ y
      | rt d => exact h _ _ y) z⟩
def swFor (it : WP (List D)) (p : Pat) (body : WP Out) : WP Out := ⟨fun ρ b Q => it.w ρ b fun items b1 => forN p body items ρ b1 Q, fun h z => it.m (fun items b1 y => forN.mono h y) z⟩
theorem nFor {it : WP (List D)} {p : Pat} {body : WP Out} {pr : Bool} (hp : p.fits pr = true) {Dn : Ends} {σ : L2.St} {H : Hp} (q : tSn (swFor it p body) Dn σ H) : tFor (inn pr it) (gP K p) (tSn body) Dn σ H := by
  obtain ⟨g, M0, H0, ρ, b, R, q⟩ := q
  refine ⟨g, M0, H0, ρ, b, R, it.m (fun items b1 q J H1 k1 i1 dw => ⟨fun i m σ' H' => i ≤ items.length ∧ m = items.length - i ∧ ∃ ρ' b', Rn g M0 H0 H' σ' ρ' b' ∧ Stp M0 σ ρ H1 σ' ρ' H' ∧ forN p body (items.drop i) ρ' b' fun o b2 => PostN g M0 H0 σ ρ H Dn o b2, ⟨_, Nat.zero_le _, rfl, ρ, b1, R.up k1 i1, .refl, q⟩, ?_⟩) q⟩
  rintro i m σ' H' ⟨hi, rfl, ρ', b', R', st, e⟩
  have dw := dw (fun a => Mu true M0 σ' ρ' a ∨ Mu true M0 σ ρ a) fun a m => m.elim (st.ow a) .inl
  obtain ⟨G, Y, W, hG, hY⟩ := dw.ex
  have kp : KpM (fun a => Mu true M0 σ' ρ' a ∨ Mu true M0 σ ρ a) H1 H' := fun p o n e => st.kp p o (fun m => n (.inr m)) e
  have stA := (R.stp k1).trans st
  by_cases hlt : i < items.length
  · refine .inr ⟨W.goes i H' hlt (hG _ kp), fun σ3 H3 => ∃ ρ3 b3, Rn g M0 H0 H3 σ3 ρ3 b3 ∧ Stp M0 σ ρ H1 σ3 ρ3 H3 ∧ forN p body (items.drop (i + 1)) ρ3 b3 fun o b2 => PostN g M0 H0 σ ρ H Dn o b2, fun σ3 H3 h => ⟨items.length - (i + 1), by omega, hlt, rfl, h⟩, fun x Hb y => ?_⟩
    obtain ⟨d, ed, s2, rv⟩ := hY i x H' Hb kp (W.yields i H' x Hb hlt (hG _ kp) y)
    rw [drop_at ed] at e
    unfold forN at e
    obtain ⟨ρ1, e1, e⟩ := e
    refine bindP.okN (pr := pr) (R'.mono s2) ?_ hp e1 fun σ2 R2 B2 => ⟨g, M0, H0, ρ1, b', R2, body.m (fun o1 b2 e => ?_) e⟩
    · rcases rv with rv | ⟨zp, a, xs, ds, z1, z2, z3, z4⟩
      · exact .inl (rv.reM fun a m => .inl (.inl m))
      · exact .inr ⟨zp, a, xs, ds, z1, z2, z3, z4.reM fun a m => .inl (.inl m)⟩
    have st2 : Stp M0 σ' ρ' H' σ2 ρ1 Hb := ⟨.of s2, fun p m => .inl (B2.mu p m)⟩
    cases o1 with
    | nx ρ2 => exact fun σ3 H3 R3 s3 => ⟨ρ2, b2, R3, (st.trans st2).trans s3, e⟩
    | ct ρ2 => exact fun σ3 H3 R3 s3 => ⟨ρ2, b2, R3, (st.trans st2).trans s3, e⟩
    | bk ρ2 => exact fun σ3 H3 R3 s3 => (show PostN g M0 H0 σ ρ H Dn (.nx ρ2) b2 from e) σ3 H3 R3 ((stA.trans st2).trans s3)
    | rt d => exact e
  · have : i = items.length := by omega
    subst this
    rw [List.drop_length] at e
    exact .inl ⟨W.stops H' (hG _ kp), (show PostN g M0 H0 σ ρ H Dn (.nx ρ') b' from e) σ' H' R' stA⟩
theorem nS_for {st : Stmt} {it : WP (List D)} {p : Pat} {body : WP Out} {pr : Bool} (h : PS X st (tFor (inn pr it) (gP K p) (tSn body))) (hp : p.fits pr = true := by rfl) : PS X st (tSn (swFor it p body)) := h.wk fun Dn σ H q => nFor hp q
/-! lists of one's own -/
theorem Rn.ownSet {g : Pl} {M0 : Addr → Prop} {H0 H : Hp} {σ : L2.St} {ρ : Rho} {b : Nat} {i : Nat} {ds ds' : List D} {p : Addr} {vs vs' : List V} (R : Rn g M0 H0 H σ ρ b) (e : ρ[i]? = some (some (.own ds))) (es : σ[i]? = some (some (.ref p))) (eH : H p = some (.lst vs)) (l : vs'.length ≤ sizeLine) (r : RpAll (Mu true M0 σ ρ) H vs' ds') :
    Rn g M0 H0 (upd H p (.lst vs')) σ (ρ.set i (some (.own ds'))) b ∧ Stp M0 σ ρ H σ (ρ.set i (some (.own ds'))) (upd H p (.lst vs')) := by
  have hi : i < ρ.length := (List.getElem?_eq_some_iff.mp e).1
  have mp : Mu true M0 σ ρ p := .inr ⟨rfl, i, ds, e, es⟩
  have mu : ∀ a, Mu true M0 σ (ρ.set i (some (.own ds'))) a → Mu true M0 σ ρ a := fun a m => by
    rcases m with m | ⟨_, j, es', e1, e2⟩
    · exact .inl m
    · rcases set_get e1 with ⟨rfl, _⟩ | ⟨n, e1⟩
      · exact .inr ⟨rfl, i, ds, e, e2⟩
      · exact .inr ⟨rfl, j, es', e1, e2⟩
  have kp : KpM (Mu true M0 σ ρ) H (upd H p (.lst vs')) := fun a o n e => by
    rw [upd_ne (fun z => n (by rw [z]; exact mp))]
    exact e
  have h0 : H0 p = none := by
    obtain ⟨q, us, a, b, c, _⟩ := R.own i ds e
    rw [es] at a
    cases a
    exact c
  have np : ¬ M0 p := fun m => R.dom0 p m h0
  refine ⟨⟨fun a o n e => ?_, R.dom0, fun a m => ?_, R.pl, g.loc R.iv fun a o => upd_ne fun z => np (by rw [← z]; exact R.pl a o), by rw [List.length_set]; exact R.len, fun j d e1 => ?_, fun j es' e1 => ?_, fun j v e1 => ?_, fun j e1 => ?_, fun j k a b q e1 e2 e3 e4 => ?_⟩, kp, fun a m => .inl (mu a m)⟩
  · rw [upd_ne (fun z => by rw [z, h0] at e; cases e)]
    exact R.kp a o n e
  · rw [upd_ne (fun z => np (by rw [← z]; exact m))]
    exact R.dom a m
  · rcases set_get e1 with ⟨_, z⟩ | ⟨n, e1⟩
    · cases z
    · obtain ⟨v, a, b⟩ := R.dat j d e1
      exact ⟨v, a, (b.mono kp).reM fun a m => .inl (mu a m)⟩
  · rcases set_get e1 with ⟨rfl, z⟩ | ⟨n, e1⟩
    · cases z
      exact ⟨p, vs', es, upd_same, h0, l, (r.mono kp).reM fun a m => .inl (mu a m)⟩
    · obtain ⟨q, us, a, b, c, l', r'⟩ := R.own j es' e1
      refine ⟨q, us, a, ?_, c, l', (r'.mono kp).reM fun a m => .inl (mu a m)⟩
      rw [upd_ne (fun z => n (R.inj i j ds es' p e e1 es (by rw [← z]; exact a)))]
      exact b
  · rcases set_get e1 with ⟨_, z⟩ | ⟨n, e1⟩
    · cases z
    · exact R.raw j v e1
  · rcases set_get e1 with ⟨_, z⟩ | ⟨n, e1⟩
    · cases z
    · exact R.pool j e1
  · have f1 : ∃ a', ρ[j]? = some (some (.own a')) := by
      rcases set_get e1 with ⟨rfl, _⟩ | ⟨_, z⟩
      · exact ⟨ds, e⟩
      · exact ⟨a, z⟩
    have f2 : ∃ a', ρ[k]? = some (some (.own a')) := by
      rcases set_get e2 with ⟨rfl, _⟩ | ⟨_, z⟩
      · exact ⟨ds, e⟩
      · exact ⟨b, z⟩
    obtain ⟨a', f1⟩ := f1
    obtain ⟨b', f2⟩ := f2
    exact R.inj j k a' b' q f1 f2 e3 e4
theorem Rn.ownNew {g : Pl} {M0 : Addr → Prop} {H0 H H' : Hp} {σ : L2.St} {ρ : Rho} {b b' : Nat} {i : Nat} {ds : List D} {p : Addr} {vs : List V} (R : Rn g M0 H0 H σ ρ b) (hi : i < ρ.length) (np : H p = none) (k : KpM g.own H H') (iv : g.inv b' H') (eH : H' p = some (.lst vs)) (l : vs.length ≤ sizeLine) (r : RpAll (Mi true M0 σ ρ p) H' vs ds) :
    Rn g M0 H0 H' (σ.set i (some (.ref p))) (ρ.set i (some (.own ds))) b' ∧ Stp M0 σ ρ H (σ.set i (some (.ref p))) (ρ.set i (some (.own ds))) H' := by
  have mu : ∀ a, Mu true M0 (σ.set i (some (.ref p))) (ρ.set i (some (.own ds))) a → Mi true M0 σ ρ p a := fun a m => by
    rcases m with m | ⟨_, j, es', e1, e2⟩
    · exact .inl (.inl m)
    · rcases set_get e1 with ⟨rfl, _⟩ | ⟨n, e1⟩
      · rw [set_same (by rw [← R.len]; exact hi)] at e2
        cases e2
        exact .inr rfl
      · rw [set_other n] at e2
        exact .inl (.inr ⟨rfl, j, es', e1, e2⟩)
  have h0 : H0 p = none := by
    cases z : H0 p with
    | none => rfl
    | some o =>
      by_cases ow : g.own p
      · exact (R.dom p (R.pl p ow) np).elim
      · rw [R.kp _ _ ow z] at np; cases np
  have re : ∀ a, Mu true M0 (σ.set i (some (.ref p))) (ρ.set i (some (.own ds))) a → Mu true M0 σ ρ a ∨ H a = none := fun a m => by
    rcases mu a m with m | rfl
    · exact .inl m
    · exact .inr np
  have kp : KpM (Mu true M0 σ ρ) H H' := fun p o n e => k p o (fun z => n (.inl (R.pl p z))) e
  have kp2 : KpM (Mu true M0 (σ.set i (some (.ref p))) (ρ.set i (some (.own ds)))) H H' := fun p o n e => k p o (fun z => n (.inl (R.pl p z))) e
  have RU := R.up k iv
  refine ⟨⟨RU.kp, R.dom0, RU.dom, R.pl, iv, by rw [List.length_set, List.length_set]; exact R.len, fun j d e1 => ?_, fun j es' e1 => ?_, fun j v e1 => ?_, fun j e1 => ?_, fun j k a b q e1 e2 e3 e4 => ?_⟩, kp, re⟩
  · rcases set_get e1 with ⟨_, z⟩ | ⟨n, e1⟩
    · cases z
    · obtain ⟨v, a, b⟩ := R.dat j d e1
      exact ⟨v, by rw [set_other n]; exact a, (b.reM re).mono kp2⟩
  · rcases set_get e1 with ⟨rfl, z⟩ | ⟨n, e1⟩
    · cases z
      exact ⟨p, vs, set_same (by rw [← R.len]; exact hi), eH, h0, l, r.reM fun a m => .inl (mu a m)⟩
    · obtain ⟨q, us, a, b, c, l', r'⟩ := R.own j es' e1
      exact ⟨q, us, by rw [set_other n]; exact a, k _ _ (fun o => R.dom0 q (R.pl q o) c) b, c, l', (r'.reM re).mono kp2⟩
  · rcases set_get e1 with ⟨_, z⟩ | ⟨n, e1⟩
    · cases z
    · rw [set_other n]; exact R.raw j v e1
  · rcases set_get e1 with ⟨_, z⟩ | ⟨n, e1⟩
    · cases z
    · rw [set_other n]; exact R.pool j e1
  · have own : ∀ (m : Nat) (es : List D), ρ[m]? = some (some (.own es)) → σ[m]? = some (some (.ref q)) → q ≠ p := fun m es f1 f2 z => by
      obtain ⟨q', us, a, b, _⟩ := R.own m es f1
      rw [f2] at a
      cases a
      rw [z, np] at b
      cases b
    rcases set_get e1 with ⟨rfl, _⟩ | ⟨n1, f1⟩
    · rcases set_get e2 with ⟨rfl, _⟩ | ⟨n2, f2⟩
      · rfl
      · rw [set_same (by rw [← R.len]; exact hi)] at e3
        cases e3
        rw [set_other n2] at e4
        exact (own k b f2 e4 rfl).elim
    · rw [set_other n1] at e3
      rcases set_get e2 with ⟨rfl, _⟩ | ⟨n2, f2⟩
      · rw [set_same (by rw [← R.len]; exact hi)] at e4
        cases e4
        exact (own j a f1 e3 rfl).elim
      · rw [set_other n2] at e4
        exact R.inj j k a b q f1 f2 e3 e4
def swOwn (i : Nat) (f : WP D) : WP Out := ⟨fun ρ b Q => f.w ρ b fun d b' => ∃ ds, d = .list ds ∧ i < ρ.length ∧ Q (.nx (ρ.set i (some (.own ds)))) b', fun h z => f.m (fun d b' ⟨ds, e, l, y⟩ => ⟨ds, e, l, h _ _ y⟩) z⟩
theorem nS_own {st : Stmt} {i : Nat} {f : WP D} (h : PS X st (tAsg (tnN f) (gName i))) : PS X st (tSn (swOwn i f)) := h.wk fun Dn σ H q => by
  obtain ⟨g, M0, H0, ρ, b, R, q⟩ := q
  refine ⟨g, M0, H0, ρ, b, R, f.m (fun d b' ⟨ds, e, hi, q⟩ => ⟨ds, e, fun p vs H1 np k1 i1 eH l r => ?_⟩) q⟩
  obtain ⟨R1, s1⟩ := R.ownNew hi np k1 i1 eH l r
  exact q _ _ R1 s1
theorem nN_pure {e : Expr} {f : EF} (h : PE X e (tN f)) : PE X e (tnN (wP f)) := h.wk fun σ H Q q => by
  obtain ⟨g, M0, H0, ρ, b, R, d, e, ds, rfl, q⟩ := q
  refine ⟨_, H, _, ds, R.rs true, e, fun p vs H1 np s1 eH l r => q p vs H1 np (.of s1) (Pl.same R.iv s1) eH l (r.reM fun a m => ?_)⟩
  rcases m with m | rfl
  · exact .inl (.inl (.inl m))
  · exact .inl (.inr rfl)
theorem nN_lst {es : List Expr} {pos : Pos} {f : WP (List D)} (h : PA X es (tnA f)) : PE X (.List es pos) (tnN (wB f lstO)) := (pe_lst h).wk fun σ H Q q => by
  obtain ⟨g, M0, H0, ρ, b, R, q⟩ := q
  refine ⟨g, M0, H0, ρ, b, R, f.m (fun ds b1 ⟨d, e, ds', z, q⟩ vs H1 k1 i1 r1 => ?_) q⟩
  obtain ⟨l, rfl⟩ := iteS e
  cases z
  refine ⟨by rw [r1.len]; exact l, fun p np => q p vs _ ?_ (k1.tr (.of (smN np))) (Pl.same i1 (smN np)) upd_same (by rw [r1.len]; exact l) ((r1.reM fun a m => ?_).mono (.of (smN np)))⟩
  · cases z : H p with
    | none => rfl
    | some o =>
      by_cases ow : g.own p
      · exact (g.alive i1 ow np).elim
      · rw [k1 _ _ ow z] at np; cases np
  · rcases m with m | rfl
    · exact .inl m
    · exact .inr np
def swApp (i : Nat) (f : WP (List D)) : WP Out := ⟨fun ρ b Q => ∃ ds, ρ[i]? = some (some (.own ds)) ∧ f.w ρ b fun es b' => ∃ d, es = [d] ∧ ds.length < sizeLine ∧ Q (.nx (ρ.set i (some (.own (ds ++ [d]))))) b', fun h ⟨ds, e, z⟩ => ⟨ds, e, f.m (fun es b' ⟨d, e2, l, y⟩ => ⟨d, e2, l, h _ _ y⟩) z⟩⟩
theorem nS_app {st : Stmt} {i : Nat} {f : WP (List D)} (h : PS X st (tDrop (tBM K "list" rAppend (tVar i) (tnA f)))) : PS X st (tSn (swApp i f)) := h.wk fun Dn σ H q => by
  obtain ⟨g, M0, H0, ρ, b, R, ds, z, q⟩ := q
  obtain ⟨p, vs, a, c, h0, l, r⟩ := R.own i ds z
  refine ⟨.ref p, a, .inl ⟨rfl, _, SqL.of c⟩, g, M0, H0, ρ, b, R, f.m (fun es b1 ⟨d, e, l2, q⟩ us H1 k1 i1 r1 => ?_) q⟩
  subst e
  match us, r1 with
  | [u], .cons r1 .nil =>
    have hl : vs.length < sizeLine := by rw [r.len]; exact l2
    have c1 := k1 _ _ (fun o => R.dom0 p (R.pl p o) h0) c
    refine ⟨p, vs, _, rfl, rfl, c1, hl, ?_⟩
    obtain ⟨R1, S1⟩ := (R.up k1 i1).ownSet z a c1 (vs' := vs ++ [u]) (by rw [List.length_append]; exact hl) ((r.mono fun p o n e => k1 p o (fun z => n (.inl (R.pl p z))) e).app (.cons r1 .nil))
    exact q _ _ R1 ((R.stp k1).trans S1)
def swDrop (f : WP D) : WP Out := ⟨fun ρ b Q => f.w ρ b fun _ b' => Q (.nx ρ) b', fun h z => f.m (fun d b' y => h _ _ y) z⟩
theorem nS_expr {st : Stmt} {f : WP D} (h : PS X st (tDrop (tn f))) : PS X st (tSn (swDrop f)) := h.wk fun Dn σ H q => by
  obtain ⟨g, M0, H0, ρ, b, R, q⟩ := q
  exact ⟨g, M0, H0, ρ, b, R, f.m (fun d b' q v H1 k1 i1 r1 => q σ H1 (R.up k1 i1) (R.stp k1)) q⟩
end
/-! ### a def that draws -/
def startP (n : Nat) (ds : List D) : Rho := some .pool :: (ds.map (fun d => some (.dat d)) ++ List.replicate (n - (ds.length + 1)) none)
theorem RpAll.startN {g : Pl} {M : Addr → Prop} {H : Hp} {N : List Str} {vs : List V} {ds : List D} {b : Nat} (dm : Dom M H) (pl : ∀ p, g.own p → M p) (iv : g.inv b H) (r : RpAll M H vs ds) : Rn g M H H (L2.start N (g.h :: vs)) (startP N.length ds) b := by
  have get : ∀ (i : Nat) (x : LV), (startP N.length ds)[i]? = some (some x) → (i = 0 ∧ x = .pool) ∨ ∃ j d, i = j + 1 ∧ ds[j]? = some d ∧ x = .dat d := fun i x e => by
    cases i with
    | zero => cases e; exact .inl ⟨rfl, rfl⟩
    | succ j =>
      have e : (ds.map (fun d => some (LV.dat d)) ++ List.replicate (N.length - (ds.length + 1)) none)[j]? = some (some x) := e
      rw [List.getElem?_append] at e
      split at e
      · rw [List.getElem?_map] at e
        cases z : ds[j]? with
        | none => rw [z] at e; cases e
        | some d => rw [z] at e; cases e; exact .inr ⟨j, d, rfl, z, rfl⟩
      · rw [List.getElem?_replicate] at e
        split at e <;> cases e
  have mu : ∀ a, Mu true M (L2.start N (g.h :: vs)) (startP N.length ds) a → M a ∨ H a = none := fun a m => by
    rcases m with m | ⟨_, j, es, e, _⟩
    · exact .inl m
    · rcases get j _ e with ⟨_, z⟩ | ⟨_, _, _, _, z⟩ <;> cases z
  refine ⟨.refl, dm, dm, pl, iv, ?_, fun i d e => ?_, fun i es e => ?_, fun i v e => ?_, fun i e => ?_, fun i j a b p e => ?_⟩
  · unfold startP L2.start
    simp [r.len]
  · rcases get i _ e with ⟨_, z⟩ | ⟨j, d', rfl, ed, z⟩
    · cases z
    · cases z
      obtain ⟨v, a, b⟩ := r.get ed
      refine ⟨v, ?_, b.reM mu⟩
      unfold L2.start
      rw [List.map_cons, List.cons_append, List.getElem?_cons_succ, List.getElem?_append, if_pos (by rw [List.length_map]; exact (List.getElem?_eq_some_iff.mp a).1), List.getElem?_map, a]
      rfl
  · rcases get i _ e with ⟨_, z⟩ | ⟨_, _, _, _, z⟩ <;> cases z
  · rcases get i _ e with ⟨_, z⟩ | ⟨_, _, _, _, z⟩ <;> cases z
  · rcases get i _ e with ⟨rfl, _⟩ | ⟨_, _, _, _, z⟩
    · rfl
    · cases z
  · rcases get i _ e with ⟨_, z⟩ | ⟨_, _, _, _, z⟩ <;> cases z
def TellsN (Q : D → Nat → Prop) : Out → Nat → Prop
  | .rt d, b => Q d b
  | .nx _, b => Q .none b
  | _, _ => False
theorem okFnN {P : Program} {w : World} {K : PySem.W.Frag} {mg : Str → Option Value} {base : Heap} {x qual : Str} {st : Stmt} {f : Addr} {fd : FuncData} {N ps : List Str} {k n : Nat} {F0 : GF} (F : Fun K x qual st f fd) (S : FnScope N ps (defScope st)) (hn : n + 1 = ps.length)
    (walk : ∀ (cdv : Value) (A : Around) (outer : List Env) (s : Shared) (H : Hp) (E : XK), Room k (A.deeper (envOfC qual (defScope st) s.heap.objs.size f cdv)) →
      ∃ fS, PSs (cxOf CX0 P w K mg base N qual (defScope st) f cdv A outer s H E).nox (defBody st) (tSn fS) ∧ ∀ ds b Q, ds.length = n → F0.f ds b Q → fS.w (startP N.length ds) b (TellsN Q)) :
    FnOk P w K mg base CX0 (k + 1) f fd ps (spN n F0) := by
  refine F.ok S (fun vs H Q E h => ?_) (fun cdv A outer s H vs Q E hr h => ?_)
  · obtain ⟨g, M, ws, ds, b, rfl, _, _, _, r, l, _⟩ := h
    rw [← hn, ← l, ← r.len]
    rfl
  · obtain ⟨g, M, ws, ds, b, rfl, pl, dm, iv, r, l, q⟩ := h
    obtain ⟨fS, hS, hw⟩ := walk cdv A outer s H E hr
    refine ⟨_, hS, g, M, H, _, b, r.startN dm pl iv, fS.m (fun o b' t => ?_) (hw ds b _ l q)⟩
    cases o with
    | nx ρ' => exact fun σ' H' R s => (show ∀ v H', KpM g.own H H' → g.inv b' H' → Rp M H' v .none → Q v H' from t) _ _ R.kp R.iv .non
    | rt d' => exact t
    | bk ρ' => exact t.elim
    | ct ρ' => exact t.elim
end Dl
namespace Dl
open PySem PySem.Spec PyProof.Rows L2 Rt
theorem u65 {k : Nat} {A : Around} (r : Room k A) : A.units + 65 < cLine := by
  have := r.un
  omega
section
variable {X : Cx} {K : PySem.W.Frag}
theorem dE_lc {e : Expr} {it : Rho → Option (List D)} {p : Pat} {c : Rho → Option Bool} {f : EF} {vs : List Nat} {μ μi pr : Bool} (h : PE X e (tLc (iD μ pr it) (gP K p) (tT c) (tD μi f) vs)) (hp : p.fits pr = true := by rfl) (hs : ∀ j, j ∈ slP p → j ∈ vs := by decide) : PE X e (tD μ (eLc μ vs it p c f)) := h.wk fun _ _ _ q => dLc hp hs q
theorem dS_lc {st : Stmt} {i : Nat} {it : Rho → Option (List D)} {p : Pat} {c : Rho → Option Bool} {f : EF} {vs : List Nat} {μi pr : Bool} (h : PS X st (tAsg (tLc (iD true pr it) (gP K p) (tT c) (tD μi f) vs) (gName i))) (hp : p.fits pr = true := by rfl) (hs : ∀ j, j ∈ slP p → j ∈ vs := by decide) : PS X st (tS (sAsg (.nm i) (eLc true vs it p c f))) :=
  dS_asg (K := K) (h.wk fun Dn σ H q => dLc hp hs q)
theorem oS_lc {st : Stmt} {i : Nat} {it : Rho → Option (List D)} {p : Pat} {c : Rho → Option Bool} {f : EF} {vs : List Nat} {μi pr : Bool} (h : PS X st (tAsg (tLc (iD true pr it) (gP K p) (tT c) (tD μi f) vs) (gName i))) (hp : p.fits pr = true := by rfl) (hs : ∀ j, j ∈ slP p → j ∈ vs := by decide) : PS X st (tS (sOwn i (eLc true vs it p c f))) :=
  dS_own (h.wk fun Dn σ H q => nLc hp hs q)
theorem nE_lc {e : Expr} {it : WP (List D)} {p : Pat} {c : WP Bool} {f : WP D} {vs : List Nat} {pr : Bool} (h : PE X e (tLc (inn pr it) (gP K p) (tnT c) (tn f) vs)) (hp : p.fits pr = true := by rfl) (hs : ∀ j, j ∈ slP p → j ∈ vs := by decide) : PE X e (tn (wLc vs it p c f)) := h.wk fun _ _ _ q => nLcE hp hs q
theorem nS_lc {st : Stmt} {i : Nat} {it : WP (List D)} {p : Pat} {c : WP Bool} {f : WP D} {vs : List Nat} {pr : Bool} (h : PS X st (tAsg (tLc (inn pr it) (gP K p) (tnT c) (tn f) vs) (gName i))) (hp : p.fits pr = true := by rfl) (hs : ∀ j, j ∈ slP p → j ∈ vs := by decide) : PS X st (tSn (swAsg (.nm i) (wLc vs it p c f))) :=
  nS_asg (K := K) (h.wk fun Dn σ H q => nLcE hp hs q)
theorem nO_lc {st : Stmt} {i : Nat} {it : WP (List D)} {p : Pat} {c : WP Bool} {f : WP D} {vs : List Nat} {pr : Bool} (h : PS X st (tAsg (tLc (inn pr it) (gP K p) (tnT c) (tn f) vs) (gName i))) (hp : p.fits pr = true := by rfl) (hs : ∀ j, j ∈ slP p → j ∈ vs := by decide) : PS X st (tSn (swOwn i (wLc vs it p c f))) :=
  nS_own (h.wk fun Dn σ H q => nLcN hp hs q)
theorem nE_callB {x : Str} {p pos : Pos} {e : Expr} {es : List Expr} {id : String} {g : List D → Option D} {f : WP (List D)} (c : CallR X (.builtin id) (rC g)) (hg : Gl X x) (hm : X.mg x = none) (hv : bootBuiltins x = some (.builtin id)) (ha : PA X (e :: es) (tnA f))
    (hn : x ≠ "__name__" := by decide) (hdb : (x == ("__debug__" : Str)) = false := by decide) (he : starEach (e :: es) X.env = (false, eval e X.env) :: starEach es X.env := by rfl) (hpl : (backTo pos (starEach es X.env)).any (·.1) = false := by rfl) :
    PE X (.Call (.Name x p) (e :: es) [] pos) (tn (wB f g)) := (pe_callB c hg hm hv ha hn hdb he hpl).wk fun _ _ _ q => nCall q
theorem nE_callTy {x : Str} {p pos : Pos} {e : Expr} {es : List Expr} {T : String} {g : List D → Option D} {f : WP (List D)} (c : CallR X (.type T) (rC g)) (hg : Gl X x) (hm : X.mg x = none) (hv : bootBuiltins x = some (.type T)) (ha : PA X (e :: es) (tnA f))
    (hn : x ≠ "__name__" := by decide) (hdb : (x == ("__debug__" : Str)) = false := by decide) (he : starEach (e :: es) X.env = (false, eval e X.env) :: starEach es X.env := by rfl) (hpl : (backTo pos (starEach es X.env)).any (·.1) = false := by rfl) :
    PE X (.Call (.Name x p) (e :: es) [] pos) (tn (wB f g)) := (pe_callTy c hg hm hv ha hn hdb he hpl).wk fun _ _ _ q => nCall q
/-- x = x + e, both lists, x one's own -/
def eCat (i : Nat) (f : EF) : EF := fun ρ => match ρ[i]? with
  | some (some (.own ds)) => (f ρ).bind fun d => match d with
    | .list es => if ds.length + es.length ≤ sizeLine then some (.list (ds ++ es)) else none
    | _ => none
  | _ => none
theorem oE_cat {a b : Expr} {pos : Pos} {i : Nat} {f : EF} (ha : PE X a (tVar i)) (hb : PE X b (tD true f)) : PE X (.BinOp a .Add b pos) (tN (eCat i f)) := (pe_op op_cat ha hb).wk fun σ H Q q => by
  obtain ⟨M0, H0, ρ, es, R, e, q⟩ := q
  unfold eCat at e
  split at e
  · rename_i ds z
    obtain ⟨d, ed, e⟩ := some_bind e
    obtain ⟨p, vs, a, b, c, l, r⟩ := R.own i ds z
    refine ⟨.ref p, a, M0, H0, ρ, d, R, ed, fun v H1 s1 r1 => ?_⟩
    cases r1 <;> try (cases e; done)
    rename_i t n l1 r1
    obtain ⟨l2, e3⟩ := iteS e
    cases e3
    refine ⟨_, _, _, _, rfl, rfl, s1 _ _ b, t, by rw [r.len, r1.len]; exact l2, fun p2 hp2 => q p2 _ _ ?_ (s1.trans (smN hp2)) upd_same (by rw [List.length_append, r.len, r1.len]; exact l2) ?_⟩
    · cases z : H p2 with
      | none => rfl
      | some o => rw [s1 _ _ z] at hp2; cases hp2
    · have k : ∀ a, Mi true M0 σ ρ p2 a → Mu true M0 σ ρ a ∨ ‹Hp› a = none := fun a m => by
        rcases m with m | rfl
        · exact .inl m
        · exact .inr hp2
      exact (((r.mono (.of s1)).reM k).mono (.of (smN hp2))).app ((r1.reM k).mono (.of (smN hp2)))
  · cases e
def wCat (i : Nat) (f : WP D) : WP D := ⟨fun ρ b Q => ∃ ds, ρ[i]? = some (some (.own ds)) ∧ f.w ρ b fun d b' => ∃ es, d = .list es ∧ ds.length + es.length ≤ sizeLine ∧ Q (.list (ds ++ es)) b', fun h ⟨ds, e, z⟩ => ⟨ds, e, f.m (fun d b' ⟨es, e1, l, y⟩ => ⟨es, e1, l, h _ _ y⟩) z⟩⟩
theorem nO_cat {a b : Expr} {pos : Pos} {i : Nat} {f : WP D} (ha : PE X a (tVar i)) (hb : PE X b (tn f)) : PE X (.BinOp a .Add b pos) (tnN (wCat i f)) := (pe_op op_cat ha hb).wk fun σ H Q q => by
  obtain ⟨g, M0, H0, ρ, b, R, ds, z, q⟩ := q
  obtain ⟨p, vs, a, c, h0, l, r⟩ := R.own i ds z
  refine ⟨.ref p, a, g, M0, H0, ρ, b, R, f.m (fun d b1 ⟨es, e1, l2, q⟩ v H1 k1 i1 r1 => ?_) q⟩
  obtain ⟨es', e3, q⟩ := q
  cases e3
  subst e1
  cases r1 with
  | lst t n l1 r1 =>
    have c1 := k1 _ _ (fun o => R.dom0 p (R.pl p o) h0) c
    refine ⟨_, _, _, _, rfl, rfl, c1, t, by rw [r.len, r1.len]; exact l2, fun p2 hp2 => q p2 _ _ ?_ (k1.tr (.of (smN hp2))) (Pl.same i1 (smN hp2)) upd_same (by rw [List.length_append, r.len, r1.len]; exact l2) ?_⟩
    · cases z : H p2 with
      | none => rfl
      | some o =>
        by_cases ow : g.own p2
        · exact (g.alive i1 ow hp2).elim
        · rw [k1 _ _ ow z] at hp2; cases hp2
    · have k : ∀ a, Mi true M0 σ ρ p2 a → Mu true M0 σ ρ a ∨ H1 a = none := fun a m => by
        rcases m with m | rfl
        · exact .inl m
        · exact .inr hp2
      exact (((r.mono fun p o n e => k1 p o (fun z => n (.inl (R.pl p z))) e).reM k).mono (.of (smN hp2))).app ((r1.reM k).mono (.of (smN hp2)))
def sPar (i j : Nat) (f : Rho → Option (List D)) : Rho → Option Out := fun ρ => (f ρ).bind fun ds => match ds with
  | [a, b] => some (.nx ((ρ.set i (some (.dat a))).set j (some (.dat b))))
  | _ => none
theorem dS_par {st : Stmt} {i j : Nat} {f : Rho → Option (List D)} (h : PS X st (tPar i j (tA true f))) : PS X st (tS (sPar i j f)) := h.wk fun Dn σ H q => by
  obtain ⟨M0, H0, ρ, o, R, e, q⟩ := tS_iff.mp q
  obtain ⟨ds, ed, e⟩ := some_bind e
  refine ⟨M0, H0, ρ, ds, R, ed, fun vs H1 s1 r1 => ?_⟩
  match ds, vs, r1, e with
  | [a, b], [v, w], .cons ra (.cons rb .nil), e =>
    cases e
    have sh : ∀ a', Mu true M0 (σ.set i (some v)) (ρ.set i (some (.dat a))) a' → Mu true M0 σ ρ a' := Mu.shrink fun ds e => by cases e
    have R1 := (R.mono s1).set (i := i) ra
    have R2 := R1.set (i := j) (rb.reM fun a m => .inl (sh a m))
    refine ⟨v, w, rfl, q _ _ R2 ((Stp.of s1).trans ⟨.refl, fun p m => .inl (sh p (Mu.shrink (fun ds e => by cases e) p m))⟩)⟩
def swPar (i j : Nat) (f : WP (List D)) : WP Out := ⟨fun ρ b Q => f.w ρ b fun ds b' => ∃ x y, ds = [x, y] ∧ Q (.nx ((ρ.set i (some (.dat x))).set j (some (.dat y)))) b', fun h z => f.m (fun ds b' ⟨x, y, e, w⟩ => ⟨x, y, e, h _ _ w⟩) z⟩
theorem nS_par {st : Stmt} {i j : Nat} {f : WP (List D)} (h : PS X st (tPar i j (tnA f))) : PS X st (tSn (swPar i j f)) := h.wk fun Dn σ H q => by
  obtain ⟨g, M0, H0, ρ, b, R, q⟩ := q
  refine ⟨g, M0, H0, ρ, b, R, f.m (fun ds b1 ⟨x, y, e, q⟩ vs H1 k1 i1 r1 => ?_) q⟩
  subst e
  match vs, r1 with
  | [v, w], .cons ra (.cons rb .nil) =>
    have sh : ∀ a', Mu true M0 (σ.set i (some v)) (ρ.set i (some (.dat x))) a' → Mu true M0 σ ρ a' := Mu.shrink fun ds e => by cases e
    have R1 := (R.up k1 i1).set (i := i) ra
    have R2 := R1.set (i := j) (rb.reM fun a m => .inl (sh a m))
    refine ⟨v, w, rfl, q _ _ R2 ((R.stp k1).trans ⟨.refl, fun p m => .inl (sh p (Mu.shrink (fun ds e => by cases e) p m))⟩)⟩
/-- a def of a pool's family in the layer's words -/
theorem _root_.L2.FnOk.wk {P : Program} {w : World} {mg : Str → Option Value} {base : Heap} {k : Nat} {f : Addr} {fd : FuncData} {ps : List Str} {sp sp' : Sp} (F : FnOk P w K mg base CX0 k f fd ps sp) (m : ∀ vs H Q E, sp' vs H Q E → sp vs H Q E) : FnOk P w K mg base CX0 k f fd ps sp' :=
  ⟨fun vs H Q E h => F.len vs H Q E (m _ _ _ _ h), fun A outer s H args us vs Q E room e b v h => F.run A outer s H args us vs Q E room e b v (m _ _ _ _ h)⟩
end
end Dl
namespace Dl
open PySem PySem.Spec PyProof.Rows L2 Rt
/-! ### going through a body, step by step -/
theorem ev_guard {c : Rho → Option Bool} {e : EF} {g : Rho → Option Out} {ρ : Rho} {b : Bool} {d : D} (hc : c ρ = some b) (he : e ρ = some d) : sSeq (sIf c (sRet e) sNil) g ρ = if b = true then some (.rt d) else g ρ := by
  unfold sSeq sIf
  rw [hc]
  cases b with
  | true =>
    show ((sRet e ρ).bind _) = _
    unfold sRet
    rw [he]
    rfl
  | false => rfl
theorem ev_if {c : Rho → Option Bool} {f h g : Rho → Option Out} {ρ : Rho} {b : Bool} (hc : c ρ = some b) : sSeq (sIf c f h) g ρ = if b = true then sSeq f g ρ else sSeq h g ρ := by
  unfold sSeq sIf
  rw [hc]
  cases b <;> rfl
theorem ev_nil {g : Rho → Option Out} {ρ : Rho} : sSeq sNil g ρ = g ρ := rfl
theorem ev_retS {e : EF} {g : Rho → Option Out} {ρ : Rho} {d : D} (he : e ρ = some d) : sSeq (sRet e) g ρ = some (.rt d) := by
  unfold sSeq sRet
  rw [he]
  rfl
theorem ev_asg {p : Pat} {f : EF} {g : Rho → Option Out} {ρ ρ' : Rho} {d : D} (hf : f ρ = some d) (hb : bindP p d ρ = some ρ') : sSeq (sAsg p f) g ρ = g ρ' := by
  unfold sSeq sAsg
  rw [hf]
  show ((bindP p d ρ).map Out.nx).bind _ = _
  rw [hb]
  rfl
theorem ev_seq {f g : Rho → Option Out} {ρ ρ' : Rho} (hf : f ρ = some (.nx ρ')) : sSeq f g ρ = g ρ' := by
  unfold sSeq
  rw [hf]
  rfl
theorem ev_seqR {f g : Rho → Option Out} {ρ : Rho} {d : D} (hf : f ρ = some (.rt d)) : sSeq f g ρ = some (.rt d) := by
  unfold sSeq
  rw [hf]
  rfl
theorem ev_ret {e : EF} {ρ : Rho} {d : D} (he : e ρ = some d) : sRet e ρ = some (.rt d) := by
  unfold sRet
  rw [he]
  rfl
theorem ev_ifR {c : Rho → Option Bool} {f h : Rho → Option Out} {ρ : Rho} {b : Bool} (hc : c ρ = some b) : sIf c f h ρ = if b = true then f ρ else h ρ := by
  unfold sIf
  rw [hc]
  rfl
/-- a loop whose body tells of each item whether to go on -/
theorem ev_for {p : Pat} {body : Rho → Option Out} {t : D → Option D} (I : Rho → Prop) (hb : ∀ x ρ, I ρ → ∃ ρ1, bindP p x ρ = some ρ1 ∧ ((t x = none ∧ ∃ ρ2, I ρ2 ∧ body ρ1 = some (.nx ρ2)) ∨ ∃ d, t x = some d ∧ body ρ1 = some (.rt d))) :
    ∀ (xs : List D) (ρ : Rho), I ρ → (∃ ρ', I ρ' ∧ xs.findSome? t = none ∧ forGo p body xs ρ = some (.nx ρ')) ∨ ∃ d, xs.findSome? t = some d ∧ forGo p body xs ρ = some (.rt d)
  | [], ρ, i => .inl ⟨ρ, i, rfl, rfl⟩
  | x :: xs, ρ, i => by
    obtain ⟨ρ1, e1, h⟩ := hb x ρ i
    rcases h with ⟨ht, ρ2, i2, e2⟩ | ⟨d, ht, e2⟩
    · rcases ev_for I hb xs ρ2 i2 with ⟨ρ', i', e3, e4⟩ | ⟨d, e3, e4⟩
      · refine .inl ⟨ρ', i', by rw [List.findSome?_cons, ht]; exact e3, ?_⟩
        unfold forGo
        rw [e1]
        show (body ρ1).bind _ = _
        rw [e2]
        exact e4
      · refine .inr ⟨d, by rw [List.findSome?_cons, ht]; exact e3, ?_⟩
        unfold forGo
        rw [e1]
        show (body ρ1).bind _ = _
        rw [e2]
        exact e4
    · refine .inr ⟨d, by rw [List.findSome?_cons, ht], ?_⟩
      unfold forGo
      rw [e1]
      show (body ρ1).bind _ = _
      rw [e2]
      rfl
/-- a comprehension that tells one thing of each item -/
theorem ev_lc {i : Nat} {f : EF} {ρ : Rho} {t : D → D} (hi : i < ρ.length) : ∀ (xs : List D), (∀ x ∈ xs, f (ρ.set i (some (.dat x))) = some (t x)) → lcGo (.nm i) oYes f ρ xs = some (xs.map t)
  | [], _ => rfl
  | x :: xs, h => by
    unfold lcGo bindP
    rw [if_pos hi]
    show (f (ρ.set i (some (.dat x)))).bind _ = _
    rw [h x (by simp)]
    show (lcGo _ _ _ _ xs).map _ = _
    rw [ev_lc hi xs fun y hy => h y (by simp [hy])]
    rfl
/-- .. and picks -/
theorem ev_lcIf {i : Nat} {c : Rho → Option Bool} {f : EF} {ρ : Rho} {k : D → Bool} {t : D → D} (hi : i < ρ.length) : ∀ (xs : List D), (∀ x ∈ xs, c (ρ.set i (some (.dat x))) = some (k x)) → (∀ x ∈ xs, k x = true → f (ρ.set i (some (.dat x))) = some (t x)) → lcGo (.nm i) c f ρ xs = some ((xs.filter k).map t)
  | [], _, _ => rfl
  | x :: xs, h, h2 => by
    unfold lcGo bindP
    rw [if_pos hi]
    show (c (ρ.set i (some (.dat x)))).bind _ = _
    rw [h x (by simp)]
    show (if k x = true then _ else _) = _
    have ih := ev_lcIf hi xs (fun y hy => h y (by simp [hy])) (fun y hy => h2 y (by simp [hy]))
    cases e : k x with
    | true =>
      rw [if_pos rfl, h2 x (by simp) e]
      show (lcGo _ _ _ _ xs).map _ = _
      rw [ih, List.filter_cons_of_pos e]
      rfl
    | false =>
      rw [if_neg (by simp), ih, List.filter_cons_of_neg (by simp [e])]
theorem bools_map {α : Type} (t : α → Bool) : ∀ xs : List α, boolsD (xs.map fun x => .bool (t x)) = some (xs.map t)
  | [] => rfl
  | x :: xs => by
    show (boolsD (xs.map fun x => .bool (t x))).map _ = _
    rw [bools_map t xs]
    rfl
theorem okD_all : ∀ (ds : List D), PyData.canLayAll0 ds = true → PyData.depthAll ds + 1 ≤ 64 → PyData.hasDictAll ds = false → ∀ d ∈ ds, okD d = true
  | [], _, _, _ => fun d m => nomatch m
  | x :: xs, c, dp, hd => by
    have c2 := Bool.and_eq_true_iff.mp (show (x.canLay0 && PyData.canLayAll0 xs) = true from c)
    have hd2 := Bool.or_eq_false_iff.mp (show (x.hasDict || PyData.hasDictAll xs) = false from hd)
    have dp2 : max x.depth (PyData.depthAll xs) + 1 ≤ 64 := dp
    intro d m
    rcases List.mem_cons.mp m with e | e
    · subst e
      unfold okD SeqAt.shaped
      rw [hd2.1, c2.1]
      have : d.depth ≤ 64 := by omega
      simp [this]
    · exact okD_all xs c2.2 (by omega) hd2.2 d e
theorem okD.tup {ds : List D} (h : okD (.tuple ds) = true) : ∀ d ∈ ds, okD d = true := by
  obtain ⟨h1, h2⟩ := okD.parts h
  have h2 := Bool.and_eq_true_iff.mp h2
  exact okD_all ds h2.1 (of_decide_eq_true h2.2) h1
theorem dep_all : ∀ (ds : List D) (n : Nat), PyData.depthAll ds ≤ n → ∀ d ∈ ds, d.depth ≤ n
  | [], _, _ => fun d m => nomatch m
  | x :: xs, n, h => by
    have h : max x.depth (PyData.depthAll xs) ≤ n := h
    intro d m
    rcases List.mem_cons.mp m with e | e
    · subst e; omega
    · exact dep_all xs n (by omega) d e
theorem okD.tupD {ds : List D} (h : okD (.tuple ds) = true) : ∀ d ∈ ds, okD d = true ∧ d.depth ≤ 63 := fun d m => by
  refine ⟨okD.tup h d m, ?_⟩
  obtain ⟨_, h2⟩ := okD.parts h
  have h2 := Bool.and_eq_true_iff.mp h2
  have h3 : PyData.depthAll ds + 1 ≤ 64 := of_decide_eq_true h2.2
  exact dep_all ds 63 (by omega) d m
theorem okAll : ∀ (ds : List D), (∀ d ∈ ds, okD d = true ∧ d.depth ≤ 63) → PyData.canLayAll0 ds = true ∧ PyData.depthAll ds ≤ 63 ∧ PyData.hasDictAll ds = false
  | [], _ => ⟨rfl, Nat.zero_le _, rfl⟩
  | x :: xs, h => by
    obtain ⟨a, b, c⟩ := okAll xs fun d m => h d (by simp [m])
    obtain ⟨o, dx⟩ := h x (by simp)
    obtain ⟨o1, o2⟩ := okD.parts o
    have o2 := Bool.and_eq_true_iff.mp o2
    refine ⟨Bool.and_eq_true_iff.mpr ⟨o2.1, a⟩, ?_, Bool.or_eq_false_iff.mpr ⟨o1, c⟩⟩
    show max x.depth (PyData.depthAll xs) ≤ 63
    omega
theorem okL {ds : List D} (h : ∀ d ∈ ds, okD d = true ∧ d.depth ≤ 63) : okD (.list ds) = true := by
  obtain ⟨a, b, c⟩ := okAll ds h
  unfold okD SeqAt.shaped
  rw [show (PyData.list ds).hasDict = PyData.hasDictAll ds from rfl, c, show (PyData.list ds).canLay0 = PyData.canLayAll0 ds from rfl, a, show (PyData.list ds).depth = PyData.depthAll ds + 1 from rfl]
  have : PyData.depthAll ds + 1 ≤ 64 := by omega
  simp [this]
theorem okT {ds : List D} (h : ∀ d ∈ ds, okD d = true ∧ d.depth ≤ 63) : okD (.tuple ds) = true := by
  obtain ⟨a, b, c⟩ := okAll ds h
  unfold okD SeqAt.shaped
  rw [show (PyData.tuple ds).hasDict = PyData.hasDictAll ds from rfl, c, show (PyData.tuple ds).canLay0 = PyData.canLayAll0 ds from rfl, a, show (PyData.tuple ds).depth = PyData.depthAll ds + 1 from rfl]
  have : PyData.depthAll ds + 1 ≤ 64 := by omega
  simp [this]
theorem ok_int (i : Int) : okD (.int i) = true ∧ (PyData.int i).depth ≤ 63 := ⟨rfl, Nat.zero_le _⟩
theorem ok_nil : okD (.list []) = true := okL fun d m => nomatch m
theorem nin_tup {a : D} {ds : List D} (h : okD a = true) (h2 : okD (.tuple ds) = true) : ninD a (.tuple ds) = some (.bool (!ds.any fun z => PyData.eqv z a)) := by
  cases a <;> simp [ninD, h, h2]
theorem in_tup {a : D} {ds : List D} (h : okD a = true) (h2 : okD (.tuple ds) = true) : inD a (.tuple ds) = some (.bool (ds.any fun z => PyData.eqv z a)) := by
  cases a <;> simp [inD, h, h2]
theorem eq_ok {a b : D} (h : okD a = true) (h2 : okD b = true) : eqD a b = some (.bool (PyData.eqv a b)) := by
  simp [eqD, h, h2]
theorem ne_ok {a b : D} (h : okD a = true) (h2 : okD b = true) : neD a b = some (.bool (!PyData.eqv a b)) := by
  simp [neD, h, h2]
theorem add_tup {a b : List D} (h : a.length + b.length ≤ sizeLine) : addD (.tuple a) (.tuple b) = some (.tuple (a ++ b)) := by
  show (if a.length + b.length ≤ sizeLine then some (PyData.tuple (a ++ b)) else none) = _
  rw [if_pos h]
theorem add_lst {a b : List D} (h : a.length + b.length ≤ sizeLine) : addD (.list a) (.list b) = some (.list (a ++ b)) := by
  show (if a.length + b.length ≤ sizeLine then some (PyData.list (a ++ b)) else none) = _
  rw [if_pos h]
theorem ev_call {n : Nat} {g : List D → Option D} {f : Rho → Option (List D)} {ρ : Rho} {ds : List D} {d : D} (hf : f ρ = some ds) (hl : ds.length = n) (hg : g ds = some d) : eCall (gN n g) f ρ = some d := by
  unfold eCall gN
  rw [hf]
  show (if ds.length = n then g ds else none) = _
  rw [if_pos hl, hg]
theorem ev_and {f g : EF} {ρ : Rho} {b : Bool} {d : D} (hf : f ρ = some (.bool b)) (hg : b = true → g ρ = some d) (h0 : b = false → d = .bool false) : eAnd f g ρ = some d := by
  unfold eAnd
  rw [hf]
  cases b with
  | true => exact hg rfl
  | false => rw [h0 rfl]; rfl
theorem ev_oOr {f g : Rho → Option Bool} {ρ : Rho} {b : Bool} (hf : f ρ = some b) : oOr f g ρ = if b = true then some true else g ρ := by
  unfold oOr
  rw [hf]
  rfl
theorem ev_oAnd {f g : Rho → Option Bool} {ρ : Rho} {b : Bool} (hf : f ρ = some b) : oAnd f g ρ = if b = true then g ρ else some false := by
  unfold oAnd
  rw [hf]
  rfl
theorem ev_not {f : Rho → Option Bool} {ρ : Rho} {b : Bool} (hf : f ρ = some b) : oNot f ρ = some (!b) := by
  unfold oNot
  rw [hf]
  rfl
theorem ev_oB {f : EF} {ρ : Rho} {b : Bool} (hf : f ρ = some (.bool b)) : oB f ρ = some b := by
  unfold oB
  rw [hf]
  rfl
theorem ev_lcE {μ : Bool} {vs : List Nat} {it : Rho → Option (List D)} {p : Pat} {c : Rho → Option Bool} {f : EF} {ρ : Rho} {items res : List D} (hit : it ρ = some items) (hl : lcGo p c f (wipeR (shutR μ ρ) vs) items = some res) : eLc μ vs it p c f ρ = some (.list res) := by
  unfold eLc
  rw [hit]
  show (lcGo p c f (wipeR (shutR μ ρ) vs) items).map PyData.list = _
  rw [hl]
  rfl
theorem ev_all {μ : Bool} {vs : List Nat} {it : Rho → Option (List D)} {p : Pat} {c : Rho → Option Bool} {f : EF} {ρ : Rho} {items : List D} {α : Type} {xs : List α} {t : α → Bool} (hit : it ρ = some items) (hl : lcGo p c f (wipeR (shutR μ ρ) vs) items = some (xs.map fun x => .bool (t x))) : eCall allD (aCons (eLc μ vs it p c f) aNil) ρ = some (.bool (xs.all t)) := by
  unfold eCall aCons
  rw [ev_lcE hit hl]
  show (boolsD _).map _ = _
  rw [bools_map]
  show some (PyData.bool _) = _
  rw [List.all_map]
  rfl
theorem ev_any {μ : Bool} {vs : List Nat} {it : Rho → Option (List D)} {p : Pat} {c : Rho → Option Bool} {f : EF} {ρ : Rho} {items : List D} {α : Type} {xs : List α} {t : α → Bool} (hit : it ρ = some items) (hl : lcGo p c f (wipeR (shutR μ ρ) vs) items = some (xs.map fun x => .bool (t x))) : eCall anyD (aCons (eLc μ vs it p c f) aNil) ρ = some (.bool (xs.any t)) := by
  unfold eCall aCons
  rw [ev_lcE hit hl]
  show (boolsD _).map _ = _
  rw [bools_map]
  show some (PyData.bool _) = _
  rw [List.any_map]
  rfl
end Dl
namespace Dl
open PySem PySem.Spec PyProof.Rows L2 Rt
theorem ev_e2 {g : D → D → Option D} {f1 f2 : EF} {ρ : Rho} {a b d : D} (h1 : f1 ρ = some a) (h2 : f2 ρ = some b) (hg : g a b = some d) : e2 g f1 f2 ρ = some d := by
  unfold e2
  rw [h1]
  show (f2 ρ).bind _ = _
  rw [h2]
  exact hg
theorem ev_itG {g : List D → Option (List D)} {f : Rho → Option (List D)} {ρ : Rho} {ds r : List D} (hf : f ρ = some ds) (hg : g ds = some r) : itG g f ρ = some r := by
  unfold itG
  rw [hf]
  exact hg
theorem ran2_ok {i j : Int} (h1 : -(2 ^ 62) ≤ i) (h2 : i < 2 ^ 62) (h3 : -(2 ^ 62) ≤ j) (h4 : j < 2 ^ 62) (h5 : j - i < 2 ^ 20) : ran2D [.int i, .int j] = some (rgD i (j - i).toNat) := if_pos ⟨h1, h2, h3, h4, h5⟩
theorem ran1_ok {j : Int} (h3 : -(2 ^ 62) ≤ j) (h5 : j < 2 ^ 20) : ran1D [.int j] = some (rgD 0 j.toNat) := if_pos ⟨h3, h5⟩
theorem ev_forC {p : Pat} {body : Rho → Option Out} {x : D} {xs : List D} {ρ ρ1 ρ2 : Rho} (e1 : bindP p x ρ = some ρ1) (e2 : body ρ1 = some (.nx ρ2)) : forGo p body (x :: xs) ρ = forGo p body xs ρ2 := by
  show (bindP p x ρ).bind _ = _
  rw [e1]
  show (body ρ1).bind _ = _
  rw [e2]
  rfl
theorem ev_forR {p : Pat} {body : Rho → Option Out} {x : D} {xs : List D} {ρ ρ1 : Rho} {d : D} (e1 : bindP p x ρ = some ρ1) (e2 : body ρ1 = some (.rt d)) : forGo p body (x :: xs) ρ = some (.rt d) := by
  show (bindP p x ρ).bind _ = _
  rw [e1]
  show (body ρ1).bind _ = _
  rw [e2]
  rfl
theorem ev_forS {it : Rho → Option (List D)} {p : Pat} {body : Rho → Option Out} {ρ : Rho} {items : List D} {o : Option Out} (hit : it ρ = some items) (h : forGo p body items ρ = o) : sFor it p body ρ = o := by
  unfold sFor
  rw [hit]
  exact h
end Dl
namespace Rt
open PySem PySem.Spec PyProof.Rows L2
def topS (i : Nat) : Stmt := PySem.Challenge.pw_rightage_k01_worlds_at_their_bounds.main.body.getD i (.Pass ⟨0, 0, 0, 0⟩)
abbrev s_is_number : Stmt := topS 20
theorem sc_is_number : FnScope ["thing"] ["thing"] (defScope s_is_number) := ⟨rfl, rfl, rfl, by decide +kernel, rfl, by decide +kernel, by decide +kernel⟩
abbrev s_is_number_from : Stmt := topS 21
theorem sc_is_number_from : FnScope ["thing", "low", "high"] ["thing", "low", "high"] (defScope s_is_number_from) := ⟨rfl, rfl, rfl, by decide +kernel, rfl, by decide +kernel, by decide +kernel⟩
abbrev s_is_name : Stmt := topS 22
theorem sc_is_name : FnScope ["thing", "sign"] ["thing"] (defScope s_is_name) := ⟨rfl, rfl, rfl, by decide +kernel, rfl, by decide +kernel, by decide +kernel⟩
abbrev s_is_row : Stmt := topS 23
theorem sc_is_row : FnScope ["thing", "fewest", "most"] ["thing", "fewest", "most"] (defScope s_is_row) := ⟨rfl, rfl, rfl, by decide +kernel, rfl, by decide +kernel, by decide +kernel⟩
abbrev s_is_rising : Stmt := topS 24
theorem sc_is_rising : FnScope ["row", "ahead", "behind"] ["row"] (defScope s_is_rising) := ⟨rfl, rfl, rfl, by decide +kernel, rfl, by decide +kernel, by decide +kernel⟩
abbrev s_worldfault : Stmt := topS 26
theorem sc_worldfault : FnScope ["thing", "span", "kinds", "sources", "ways"] ["thing"] (defScope s_worldfault) := ⟨rfl, rfl, rfl, by decide +kernel, rfl, by decide +kernel, by decide +kernel⟩
abbrev s_kinds_fault : Stmt := topS 27
theorem sc_kinds_fault : FnScope ["kinds", "k", "kind"] ["kinds"] (defScope s_kinds_fault) := ⟨rfl, rfl, rfl, by decide +kernel, rfl, by decide +kernel, by decide +kernel⟩
abbrev s_sources_fault : Stmt := topS 28
theorem sc_sources_fault : FnScope ["span", "kinds", "sources", "k", "source", "fault"] ["span", "kinds", "sources"] (defScope s_sources_fault) := ⟨rfl, rfl, rfl, by decide +kernel, rfl, by decide +kernel, by decide +kernel⟩
abbrev s_source_fault : Stmt := topS 29
theorem sc_source_fault : FnScope ["span", "kinds", "source", "kind", "age", "place", "since", "many"] ["span", "kinds", "source"] (defScope s_source_fault) := ⟨rfl, rfl, rfl, by decide +kernel, rfl, by decide +kernel, by decide +kernel⟩
abbrev s_ways_fault : Stmt := topS 30
theorem sc_ways_fault : FnScope ["span", "kinds", "ways", "k", "way", "fault"] ["span", "kinds", "ways"] (defScope s_ways_fault) := ⟨rfl, rfl, rfl, by decide +kernel, rfl, by decide +kernel, by decide +kernel⟩
abbrev s_way_fault : Stmt := topS 31
theorem sc_way_fault : FnScope ["span", "kinds", "way", "kind", "parts", "keeps", "hours", "wait", "fault"] ["span", "kinds", "way"] (defScope s_way_fault) := ⟨rfl, rfl, rfl, by decide +kernel, rfl, by decide +kernel, by decide +kernel⟩
abbrev s_parts_fault : Stmt := topS 32
theorem sc_parts_fault : FnScope ["kinds", "parts", "j", "part", "fault"] ["kinds", "parts"] (defScope s_parts_fault) := ⟨rfl, rfl, rfl, by decide +kernel, rfl, by decide +kernel, by decide +kernel⟩
abbrev s_part_fault : Stmt := topS 33
theorem sc_part_fault : FnScope ["kinds", "part", "kind", "least", "greatest"] ["kinds", "part"] (defScope s_part_fault) := ⟨rfl, rfl, rfl, by decide +kernel, rfl, by decide +kernel, by decide +kernel⟩
abbrev s_is_hours : Stmt := topS 34
theorem sc_is_hours : FnScope ["span", "hours", "hour"] ["span", "hours"] (defScope s_is_hours) := ⟨rfl, rfl, rfl, by decide +kernel, rfl, by decide +kernel, by decide +kernel⟩
abbrev s_fault_below : Stmt := topS 35
theorem sc_fault_below : FnScope ["path", "fault", "inner", "word"] ["path", "fault"] (defScope s_fault_below) := ⟨rfl, rfl, rfl, by decide +kernel, rfl, by decide +kernel, by decide +kernel⟩
abbrev s_law_draws : Stmt := topS 37
theorem sc_law_draws : FnScope ["_law_script", "_law_cells", "_law_cell"] ["_law_script"] (defScope s_law_draws) := ⟨rfl, rfl, rfl, by decide +kernel, rfl, by decide +kernel, by decide +kernel⟩
abbrev s_law_next : Stmt := topS 38
theorem sc_law_next : FnScope ["_law_drawn", "_law_below", "_law_cells", "_law_turn", "_law_rests", "_law_spot", "_law_digit", "_law_mixed", "_law_again"] ["_law_drawn", "_law_below"] (defScope s_law_next) := ⟨rfl, rfl, rfl, by decide +kernel, rfl, by decide +kernel, by decide +kernel⟩
abbrev s_law_one : Stmt := topS 39
theorem sc_law_one : FnScope ["_law_drawn", "_law_wares"] ["_law_drawn", "_law_wares"] (defScope s_law_one) := ⟨rfl, rfl, rfl, by decide +kernel, rfl, by decide +kernel, by decide +kernel⟩
abbrev s_law_alike : Stmt := topS 40
theorem sc_law_alike : FnScope ["_law_one_here", "_law_other", "_law_a", "_law_b"] ["_law_one_here", "_law_other"] (defScope s_law_alike) := ⟨rfl, rfl, rfl, by decide +kernel, rfl, by decide +kernel, by decide +kernel⟩
abbrev s_law_kinds : Stmt := topS 41
theorem sc_law_kinds : FnScope ["_law_drawn", "_law_many", "_law_stem", "_law_first", "_law_way_here", "_law_found", "_law_k"] ["_law_drawn", "_law_many"] (defScope s_law_kinds) := ⟨rfl, rfl, rfl, by decide +kernel, rfl, by decide +kernel, by decide +kernel⟩
abbrev s_law_source : Stmt := topS 42
theorem sc_law_source : FnScope ["_law_drawn", "_law_size", "_law_kinds_here", "_law_old", "_law_since", "_law_age", "_law_kind", "_law_place"] ["_law_drawn", "_law_size", "_law_kinds_here", "_law_old"] (defScope s_law_source) := ⟨rfl, rfl, rfl, by decide +kernel, rfl, by decide +kernel, by decide +kernel⟩
abbrev s_law_part : Stmt := topS 43
theorem sc_law_part : FnScope ["_law_drawn", "_law_kinds_here", "_law_old", "_law_least", "_law_greatest"] ["_law_drawn", "_law_kinds_here", "_law_old"] (defScope s_law_part) := ⟨rfl, rfl, rfl, by decide +kernel, rfl, by decide +kernel, by decide +kernel⟩
abbrev s_law_way : Stmt := topS 44
theorem sc_law_way : FnScope ["_law_drawn", "_law_size", "_law_kinds_here", "_law_old", "_law_parts", "_law_hours", "_law_keeps", "_law_k", "_law_place"] ["_law_drawn", "_law_size", "_law_kinds_here", "_law_old"] (defScope s_law_way) := ⟨rfl, rfl, rfl, by decide +kernel, rfl, by decide +kernel, by decide +kernel⟩
abbrev s_law_world : Stmt := topS 45
theorem sc_law_world : FnScope ["_law_drawn", "_law_wide", "_law_old", "_law_size", "_law_kinds_here", "_law_many", "_law_sources", "_law_ways", "_law_k"] ["_law_drawn", "_law_wide", "_law_old"] (defScope s_law_world) := ⟨rfl, rfl, rfl, by decide +kernel, rfl, by decide +kernel, by decide +kernel⟩
abbrev s_law_is : Stmt := topS 46
theorem sc_law_is : FnScope ["_law_thing", "_law_low", "_law_high"] ["_law_thing", "_law_low", "_law_high"] (defScope s_law_is) := ⟨rfl, rfl, rfl, by decide +kernel, rfl, by decide +kernel, by decide +kernel⟩
abbrev s_law_name : Stmt := topS 47
theorem sc_law_name : FnScope ["_law_thing", "_law_sign"] ["_law_thing"] (defScope s_law_name) := ⟨rfl, rfl, rfl, by decide +kernel, rfl, by decide +kernel, by decide +kernel⟩
abbrev s_law_row_of : Stmt := topS 48
theorem sc_law_row_of : FnScope ["_law_thing", "_law_few", "_law_many"] ["_law_thing", "_law_few", "_law_many"] (defScope s_law_row_of) := ⟨rfl, rfl, rfl, by decide +kernel, rfl, by decide +kernel, by decide +kernel⟩
abbrev s_law_kind_in : Stmt := topS 49
theorem sc_law_kind_in : FnScope ["_law_kinds_here", "_law_thing"] ["_law_kinds_here", "_law_thing"] (defScope s_law_kind_in) := ⟨rfl, rfl, rfl, by decide +kernel, rfl, by decide +kernel, by decide +kernel⟩
abbrev s_law_rising : Stmt := topS 50
theorem sc_law_rising : FnScope ["_law_thing", "_law_many", "_law_one_here", "_law_k"] ["_law_thing", "_law_many"] (defScope s_law_rising) := ⟨rfl, rfl, rfl, by decide +kernel, rfl, by decide +kernel, by decide +kernel⟩
abbrev s_law_source_word : Stmt := topS 51
theorem sc_law_source_word : FnScope ["_law_size", "_law_kinds_here", "_law_source_here", "_law_words", "_law_k", "_law_word", "_law_low", "_law_high"] ["_law_size", "_law_kinds_here", "_law_source_here"] (defScope s_law_source_word) := ⟨rfl, rfl, rfl, by decide +kernel, rfl, by decide +kernel, by decide +kernel⟩
abbrev s_law_part_word : Stmt := topS 52
theorem sc_law_part_word : FnScope ["_law_kinds_here", "_law_part_here"] ["_law_kinds_here", "_law_part_here"] (defScope s_law_part_word) := ⟨rfl, rfl, rfl, by decide +kernel, rfl, by decide +kernel, by decide +kernel⟩
abbrev s_law_way_word : Stmt := topS 53
theorem sc_law_way_word : FnScope ["_law_size", "_law_kinds_here", "_law_way_here", "_law_k", "_law_wrong"] ["_law_size", "_law_kinds_here", "_law_way_here"] (defScope s_law_way_word) := ⟨rfl, rfl, rfl, by decide +kernel, rfl, by decide +kernel, by decide +kernel⟩
abbrev s_law_world_word : Stmt := topS 54
theorem sc_law_world_word : FnScope ["_law_thing", "_law_k", "_law_wrong"] ["_law_thing"] (defScope s_law_world_word) := ⟨rfl, rfl, rfl, by decide +kernel, rfl, by decide +kernel, by decide +kernel⟩
abbrev s_law_put : Stmt := topS 55
theorem sc_law_put : FnScope ["_law_row", "_law_spot", "_law_thing"] ["_law_row", "_law_spot", "_law_thing"] (defScope s_law_put) := ⟨rfl, rfl, rfl, by decide +kernel, rfl, by decide +kernel, by decide +kernel⟩
abbrev s_law_edges : Stmt := topS 56
theorem sc_law_edges : FnScope ["_law_drawn", "_law_world_here", "_law_size", "_law_kinds_here", "_law_sources", "_law_ways", "_law_kind", "_law_source_here", "_law_way_here", "_law_number", "_law_found", "_law_spot", "_law_some", "_law_part_here", "_law_thing"] ["_law_drawn", "_law_world_here"] (defScope s_law_edges) := ⟨rfl, rfl, rfl, by decide +kernel, rfl, by decide +kernel, by decide +kernel⟩
abbrev s_law_two : Stmt := topS 57
theorem sc_law_two : FnScope ["_law_drawn", "_law_world_here", "_law_some", "_law_wide", "_law_one_here", "_law_other"] ["_law_drawn", "_law_world_here"] (defScope s_law_two) := ⟨rfl, rfl, rfl, by decide +kernel, rfl, by decide +kernel, by decide +kernel⟩
abbrev s_law : Stmt := topS 58
theorem sc_law : FnScope ["_law_script", "_law_drawn", "_law_found", "_law_due", "_law_world_here", "_law_some", "_law_thing", "_law_k"] ["_law_script"] (defScope s_law) := ⟨rfl, rfl, rfl, by decide +kernel, rfl, by decide +kernel, by decide +kernel⟩
section
variable {P : Program} {w : World} {K : PySem.W.Frag} {mg : Str → Option Value} {base : Heap}

/-! ### _law_next -/
def spNext : Sp := fun vs H Q _ => ∃ (g : Gd) (B : Nat) (b : Int), vs = [.ref g.d, .int b] ∧ Fu g B H ∧ 1 ≤ B ∧ 0 < b ∧ b < 2 ^ 60 ∧
  ∀ v H', 0 ≤ v → v < b → Fu g (B - 1) H' → Kp g H H' → Q (.int v) H'
theorem ok_next {f : Addr} {fd : FuncData} {k : Nat} (F : Fun K "_law_next" "_law_next" s_law_next f fd) (m_len : mg "len" = none) : FnOk P w K mg base CX0 (k + 1) f fd ["_law_drawn", "_law_below"] spNext := by
  refine F.ok sc_law_next (fun vs H Q E h => ?_) (fun cdv A outer s H vs Q E hr h => ?_)
  · obtain ⟨g, B, b, rfl, _⟩ := h
    rfl
  · obtain ⟨g, B, b, rfl, ⟨t, D, hB⟩, hB1, hb0, hb, q⟩ := h
    obtain ⟨cs, hc, ec⟩ := D.hc
    obtain ⟨rs, hrr, er⟩ := D.hr
    have n0 := D.n0
    have n63 := D.n63
    have t0 := D.t0
    refine ⟨_, (pss_cons (ps_asg (pv 0) (pg_unl rfl (pgs_cons (pg_name (i := 2) sc_law_next.nd rfl (.inl rfl)) (pgs_cons (pg_name (i := 3) sc_law_next.nd rfl (.inl rfl)) (pgs_cons (pg_name (i := 4) sc_law_next.nd rfl (.inl rfl)) pgs_nil)))))
  (pss_cons (ps_set (i := 5) sc_law_next.nd rfl (.inl rfl) (pe_op op_modL (pv 3) (pe_callB call_len (by rfl) m_len (by decide +kernel) (pa_cons (pv 2) pa_nil))))
  (pss_cons (ps_asg (pe_op op_addL (pv 3) pe_int) (pg_sub (pv 0) pe_int set_listL))
  (pss_cons (ps_if (pt_cmpR op_gt (pe_ix ix_list (pv 4) (pv 5) (fun _ _ => rfl)) pe_int (nomark _))
    (pss_cons (ps_set (i := 6) sc_law_next.nd rfl (.inl rfl) (pe_op op_modL (pe_ix ix_list (pv 4) (pv 5) (fun _ _ => rfl)) (pv 1)))
  (pss_cons (ps_asg (pe_op op_divL (pe_ix ix_list (pv 4) (pv 5) (fun _ _ => rfl)) (pv 1)) (pg_sub (pv 4) (pv 5) set_listL))
  (pss_one (ps_ret (pv 6)))))
    pss_nil)
  (pss_cons (ps_set (i := 7) sc_law_next.nd rfl (.inl rfl) (pe_op op_modL (pe_op op_powL (pe_op op_addL (pe_op op_addL (pe_op op_modL (pe_ix ix_list (pv 2) (pv 5) (fun _ _ => rfl)) pe_int) (pe_op op_mulL pe_int (pv 3))) pe_int) pe_int) pe_int))
  (pss_cons (ps_set (i := 8) sc_law_next.nd rfl (.inl rfl) (pe_op op_modL (pe_op op_powL (pe_op op_addL (pe_op op_addL (pv 7) (pe_op op_mulL (pe_op op_mulL pe_int (pv 3)) (pv 3))) pe_int) pe_int) pe_int))
  (pss_one (ps_ret (pe_op op_modL (pe_op op_modL (pe_op op_addL (pe_op op_mulL (pv 8) pe_int) (pv 7)) pe_int) (pv 1)))))))))), ?_⟩
    -- cells, turn, rests = drawn
    refine ⟨.ref g.d, rfl, g.d, _, rfl, SqL.of D.hd, rfl, .ref g.c, _, rfl, .int t, _, rfl, .ref g.r, _, rfl, rfl, ?_⟩
    -- spot = turn % len(cells)
    refine ⟨.int t, rfl, .ref g.c, rfl, .ref g.c, g.n, rfl, .inl ⟨_, SqL.of hc, by rw [List.length_map, ec]⟩, t, (g.n : Int), rfl, rfl, by omega, fun sp esp hs0 hs1 => ?_⟩
    -- drawn[1] = turn + 1
    refine ⟨.int t, rfl, t, 1, rfl, rfl, fun t1 et1 => ⟨.ref g.d, rfl, g.d, _, 1, 1, rfl, rfl, D.hd, rfl, fun H1 eH1 => ?_⟩⟩
    have eH1 : H1 = upd H g.d (.lst [.ref g.c, .int t1, .ref g.r]) := eH1
    have D1 : Dr g t1 H1 := by
      subst eH1
      exact ⟨upd_same, ⟨cs, by rw [upd_ne D.dc.symm]; exact hc, ec⟩, ⟨rs, by rw [upd_ne D.dr.symm]; exact hrr, er⟩, D.dc, D.dr, D.cr, D.n0, D.n63, by omega⟩
    have K1 : Kp g H H1 := fun p o h1 h2 e => by
      subst eH1
      rw [upd_ne h1]
      exact e
    have hc1 : H1 g.c = some (.lst (cs.map V.int)) := by subst eH1; rw [upd_ne D.dc.symm]; exact hc
    have hr1 : H1 g.r = some (.lst (rs.map V.int)) := by subst eH1; rw [upd_ne D.dr.symm]; exact hrr
    -- if rests[spot] > 0
    obtain ⟨rv, hrv, rmem, _⟩ := atI_in (xs := rs.map V.int) (i := sp) hs0 (by rw [List.length_map, er]; exact hs1)
    obtain ⟨x, xm, rfl⟩ := List.mem_map.mp rmem
    obtain ⟨cv, hcv, cmem, _⟩ := atI_in (xs := cs.map V.int) (i := sp) hs0 (by rw [List.length_map, ec]; exact hs1)
    obtain ⟨y, ym, rfl⟩ := List.mem_map.mp cmem
    refine ⟨.ref g.r, rfl, .int sp, rfl, g.r, _, sp, _, rfl, rfl, SqL.of hr1, hrv, x, 0, rfl, rfl, _, rfl, ite2 (fun e => ?_) (fun e => ?_)⟩
    · -- a digit of a great cell
      refine ⟨.ref g.r, rfl, .int sp, rfl, g.r, _, sp, _, rfl, rfl, SqL.of hr1, hrv, .int b, rfl, x, b, rfl, rfl, hb0, fun dg edg hd0 hd1 => ?_⟩
      refine ⟨.ref g.r, rfl, .int sp, rfl, g.r, _, sp, _, rfl, rfl, SqL.of hr1, hrv, .int b, rfl, x, b, rfl, rfl, wide_div (b := 60) hb0 (by omega) (by decide) (by decide), fun z ez => ?_⟩
      refine ⟨.ref g.r, rfl, .int sp, rfl, g.r, _, sp, sp.toNat, rfl, rfl, hr1, ixN_in hs0 (by rw [List.length_map, er]; exact hs1), fun H2 eH2 => ?_⟩
      refine ⟨.int dg, rfl, ?_⟩
      have em : (rs.map V.int).set sp.toNat (.int z) = (rs.set sp.toNat z).map V.int := by rw [List.map_set]
      rw [em] at eH2
      subst eH2
      refine q _ _ hd0 hd1 ⟨t1, ⟨?_, ⟨cs, ?_, ec⟩, ⟨_, upd_same, by rw [List.length_set, er]⟩, D.dc, D.dr, D.cr, D.n0, D.n63, by omega⟩, by omega⟩ (fun p o h1 h2 e => ?_)
      · rw [upd_ne D.dr]; exact D1.hd
      · rw [upd_ne D.cr]; exact hc1
      · rw [upd_ne h2]; exact K1 p o h1 h2 e
    · -- a mixed one
      have ht : t ≤ 1000000 := by omega
      have htt0 : 0 ≤ 4409 * t * t := Int.mul_nonneg (by omega) t0
      have htt1 : 4409 * t * t ≤ 4409 * 1000000 * 1000000 := Int.mul_le_mul (by omega) ht t0 (by decide)
      refine ⟨.ref g.c, rfl, .int sp, rfl, g.c, _, sp, _, rfl, rfl, SqL.of hc1, hcv, y, 2147483629, rfl, rfl, by decide, fun y1 ey1 hy0 hy1 => ?_⟩
      refine ⟨.int t, rfl, 30011, t, rfl, rfl, .inl ⟨by decide, by decide⟩, fun y2 ey2 => ⟨y1, y2, rfl, rfl, fun y3 ey3 => ⟨y3, 5171, rfl, rfl, fun y4 ey4 => ⟨y4, 3, rfl, rfl, by decide, by decide, by omega, fun y5 ey5 => ⟨y5, 2147483587, rfl, rfl, by decide, fun m em hm0 hm1 => ?_⟩⟩⟩⟩⟩
      refine ⟨.int m, rfl, .int t, rfl, 4409, t, rfl, rfl, .inl ⟨by decide, by decide⟩, fun u1 eu1 => ⟨.int t, rfl, u1, t, rfl, rfl, .inl ⟨by omega, by omega⟩, fun u2 eu2 => ⟨m, u2, rfl, rfl, fun u3 eu3 => ⟨u3, 13, rfl, rfl, fun u4 eu4 => ⟨u4, 3, rfl, rfl, by decide, by decide, ?_, fun u5 eu5 => ⟨u5, 2147483563, rfl, rfl, by decide, fun a ea ha0 ha1 => ?_⟩⟩⟩⟩⟩⟩
      · subst eu1
        omega
      · refine ⟨.int a, rfl, a, 2147483423, rfl, rfl, .inl ⟨by omega, by omega⟩, fun v1 ev1 => ⟨.int m, rfl, v1, m, rfl, rfl, fun v2 ev2 => ⟨v2, 4611686018427387847, rfl, rfl, by decide, fun v3 ev3 hv0 hv1 => ⟨.int b, rfl, v3, b, rfl, rfl, hb0, fun v4 ev4 hv2 hv3 => ?_⟩⟩⟩⟩
        exact q _ _ hv2 hv3 ⟨t1, D1, by omega⟩ K1
end
end Rt
namespace Rt
open PySem PySem.Spec PyProof.Rows L2
theorem sm_new {H : Hp} {p : Addr} {o : HO} (h : H p = none) : Same H (upd H p o) := fun b x e => by
  rw [upd_ne (ne_of_none e h)]
  exact e
theorem sm_mut {H H' : Hp} {p : Addr} {o : HO} (e : Same H H') (h : H p = none) : Same H (upd H' p o) := fun b x z => by
  rw [upd_ne (ne_of_none z h)]
  exact e b x z
theorem cut63 (ns : List Int) : cutV (ns.map V.int) none (some 63) = (ns.take 63).map V.int := by
  unfold cutV
  rw [show HT.sIx (ns.map V.int).length (ns.map V.int).length (some 63) = min 63 (ns.map V.int).length from HT.sIx_nat _ _ 63, HT.sIx_none, List.drop_zero, List.map_take, Nat.sub_zero]
  rw [← List.take_take]
  rw [List.take_length]
theorem ne_of_some {H : Hp} {p q : Addr} {o : HO} (h : H p = some o) (n : H q = none) : q ≠ p := fun e => by
  rw [e, h] at n
  cases n
section
variable {P : Program} {w : World} {K : PySem.W.Frag} {mg : Str → Option Value} {base : Heap}

def spDraws (K : PySem.W.Frag) : Sp := fun vs H Q _ => ∃ (a : Addr) (ns : List Int), vs = [.ref a] ∧ SqL K H a (ns.map V.int) ∧ ns.length ≤ 63 ∧
  ∀ g H', Same H H' → Fu g 1000000 H' → Q (.ref g.d) H'
theorem ok_draws {f : Addr} {fd : FuncData} {k : Nat} (F : Fun K "_law_draws" "_law_draws" s_law_draws f fd) (m_len : mg "len" = none) (m_list : mg "list" = none) (m_int : mg "int" = none) : FnOk P w K mg base CX0 (k + 1) f fd ["_law_script"] (spDraws K) := by
  refine F.ok sc_law_draws (fun vs H Q E h => ?_) (fun cdv A outer s H vs Q E hr h => ?_)
  · obtain ⟨a, ns, rfl, _⟩ := h
    rfl
  · obtain ⟨a, ns, rfl, hS, hn, q⟩ := h
    refine ⟨_, (pss_cons (ps_set (i := 1) sc_law_draws.nd rfl (.inl rfl) (pe_op op_cat (pe_callTy call_list_of (by rfl) m_list (by decide +kernel) (pa_cons (pe_slice sl_list (pv 0) po_none (po_some pe_int)) pa_nil)) (pe_op op_rep (pe_lstL (pa_cons pe_int pa_nil)) (pe_callTy call_int1 (by rfl) m_int (by decide +kernel) (pa_cons (pe_cmpR op_eq (pe_callB call_len (by rfl) m_len (by decide +kernel) (pa_cons (pv 0) pa_nil)) pe_int (nomark _)) pa_nil)))))
  (pss_one (ps_ret (pe_lstL (pa_cons (pv 1) (pa_cons pe_int (pa_cons (pe_lc (own := [("_law_cell", 2)]) (g := (gName 2)) (tt := tYes) rfl sc_law_draws.nd (pi_list (pv 1)) (blkOk_by (own := [("_law_cell", 2)]) (N := ["_law_script", "_law_cells", "_law_cell"]) (sc := defScope s_law_draws) (by decide +kernel)) (fun _ _ _ _ _ => (pg_name (i := 2) sc_law_draws.nd rfl (.inl rfl))) (fun _ _ _ _ _ => pts_nil) (fun _ _ _ _ _ => (pe_op op_mulL (pv 2) (pe_callTy call_int1 (by rfl) m_int (by decide +kernel) (pa_cons (pe_cmpR op_ge (pv 2) (pe_op op_powL pe_int pe_int) (nomark _)) pa_nil))))) pa_nil))))))), ?_⟩
    -- list(script[:63])
    refine ⟨.ref a, rfl, 63, rfl, a, ns.map V.int, rfl, hS, fun c0 n0 => ⟨c0, _, rfl, .inl (SqL.of upd_same), fun l nl => ?_⟩⟩
    rw [cut63]
    have s1 : Same H (upd (upd H c0 (.lst ((ns.take 63).map V.int))) l (.lst ((ns.take 63).map V.int))) := sm_mut (sm_new n0) (by
      cases e : H l with
      | none => rfl
      | some o => rw [sm_new n0 _ _ e] at nl; cases nl)
    generalize eH1 : upd (upd H c0 (.lst ((ns.take 63).map V.int))) l (.lst ((ns.take 63).map V.int)) = H1 at s1 ⊢
    have hl1 : H1 l = some (.lst ((ns.take 63).map V.int)) := by rw [← eH1]; exact upd_same
    -- [0] * int(len(script) == 0)
    refine ⟨by decide, fun p2 H2 np2 eH2 => ⟨.ref a, rfl, .ref a, ns.length, rfl, .inl ⟨_, (s1.trans (by rw [eH2]; exact sm_new np2)).seq hS, by rw [List.length_map]⟩, rfl, .inr ⟨_, rfl, ?_⟩⟩⟩
    have s2 : Same H1 H2 := by rw [eH2]; exact sm_new np2
    have hp2 : H2 p2 = some (.lst [.int 0]) := by rw [eH2]; exact upd_same
    have hl2 := s2 _ _ hl1
    obtain ⟨j, ej, hj⟩ : ∃ j : Nat, (if decide (V.int (ns.length : Int) = V.int 0) = true then (1 : Int) else 0) = (j : Int) ∧ (j = 1 ∧ ns.length = 0 ∨ j = 0 ∧ 0 < ns.length) := by
      by_cases e0 : ns.length = 0
      · exact ⟨1, by rw [e0]; rfl, .inl ⟨rfl, e0⟩⟩
      · refine ⟨0, ?_, .inr ⟨rfl, by omega⟩⟩
        rw [if_neg]
        · rfl
        · intro z
          have z2 := V.int.inj (of_decide_eq_true z)
          omega
    refine ⟨p2, (j : Int), [.int 0], rfl, by rw [← ej], hp2, by omega, by omega, by show 1 * (j : Int).toNat ≤ _; exact sz (by omega), fun p3 np3 => ?_⟩
    have el : (List.replicate ((j : Int).toNat) [V.int 0]).flatten = (List.replicate j (0 : Int)).map V.int := by
      rw [Int.toNat_natCast]
      rcases hj with ⟨rfl, _⟩ | ⟨rfl, _⟩ <;> rfl
    rw [el]
    have hl3 : upd H2 p3 (.lst ((List.replicate j (0 : Int)).map V.int)) l = some (.lst ((ns.take 63).map V.int)) := sm_new np3 _ _ hl2
    refine ⟨l, p3, _, _, rfl, rfl, hl3, upd_same, ?_, fun c nc => ?_⟩
    · rw [List.length_map, List.length_map, List.length_take, List.length_replicate]
      exact sz (by omega)
    rw [← List.map_append]
    generalize ecs : ns.take 63 ++ List.replicate j (0 : Int) = cs
    have lcs : 0 < cs.length ∧ cs.length ≤ 63 := by
      rw [← ecs, List.length_append, List.length_take, List.length_replicate]
      omega
    have s3 : Same H2 (upd (upd H2 p3 (.lst ((List.replicate j (0 : Int)).map V.int))) c (.lst (cs.map V.int))) := (sm_new np3).trans (sm_new nc)
    generalize eH3 : upd (upd H2 p3 (.lst ((List.replicate j (0 : Int)).map V.int))) c (.lst (cs.map V.int)) = H3 at s3 ⊢
    have hc3 : H3 c = some (.lst (cs.map V.int)) := by rw [← eH3]; exact upd_same
    have sH3 : Same H H3 := (s1.trans s2).trans s3
    -- the rests
    refine ⟨.ref c, rfl, .ref c, rfl, c, rfl, ⟨_, SqL.of hc3⟩, fun D nD => ?_⟩
    have oc : D ≠ c := ne_of_some hc3 nD
    refine lc_list (K := K) (a := c) (xs := cs.map V.int) (fun i H' => Same H3 H' ∧ ∃ rs : List Int, H' D = some (.lst (rs.map V.int)) ∧ rs.length = i) ⟨sm_new nD, [], upd_same, rfl⟩ (fun i H' _ h => SqL.of (h.1 _ _ hc3)) (fun i x H' hx h => ?_) (fun H4 h => ?_)
    · obtain ⟨sm, rs, eD, er⟩ := h
      have hi : i < (cs.map V.int).length := (List.getElem?_eq_some_iff.mp hx).1
      rw [List.length_map] at hi
      obtain ⟨z, rfl⟩ : ∃ z, x = V.int z := by
        rw [List.getElem?_map, List.getElem?_eq_getElem hi] at hx
        exact ⟨_, (Option.some.inj hx).symm⟩
      refine ⟨rfl, .int z, rfl, .int z, rfl, 10, 18, rfl, rfl, by decide, by decide, by decide, fun y ey => ⟨z, y, rfl, rfl, .inr ⟨_, rfl, ?_⟩⟩⟩
      refine ⟨z, _, rfl, rfl, .inr ?_, fun v ev => ⟨_, eD, ?_, sm_mut sm nD, rs ++ [v], ?_, ?_⟩⟩
      · split <;> decide
      · rw [List.length_map, er]
        exact szl (by omega)
      · rw [upd_same, List.map_append]
        rfl
      · rw [List.length_append, er]
        rfl
    · obtain ⟨sm, rs, eD, er⟩ := h
      rw [List.length_map] at er
      refine ⟨sz (n := 3) (by decide), fun d H5 nd eH5 => ?_⟩
      have hc4 := sm _ _ hc3
      subst eH5
      refine q ⟨d, c, D, cs.length⟩ _ (sH3.trans (sm.trans (sm_new nd))) ⟨0, ⟨upd_same, ⟨cs, sm_new nd _ _ hc4, rfl⟩, ⟨rs, sm_new nd _ _ eD, er⟩, ne_of_some hc4 nd, ne_of_some eD nd, oc.symm, lcs.1, lcs.2, by decide⟩, by decide⟩
/-! ### _law_one -/
def spOne (K : PySem.W.Frag) : Sp := fun vs H Q _ => ∃ (g : Gd) (B : Nat) (x : V), vs = [.ref g.d, x] ∧ Fu g B H ∧ 1 ≤ B ∧
  ((∃ p xs, x = .ref p ∧ g.Off p ∧ H p = some (.lst xs) ∧ 0 < xs.length ∧ xs.length ≤ 1000 ∧ ∀ v H', v ∈ xs → Fu g (B - 1) H' → Kp g H H' → Q v H') ∨
   (∃ p xs, x = .ref p ∧ H p = some (.tup xs) ∧ 0 < xs.length ∧ xs.length ≤ 1000 ∧ ∀ v H', v ∈ xs → Fu g (B - 1) H' → Kp g H H' → Q v H') ∨
   (∃ z : Str, x = .str z ∧ 0 < z.length ∧ z.length ≤ 1000 ∧ ∀ (c : Nat) H', c ∈ z.cps.toList → Fu g (B - 1) H' → Kp g H H' → Q (.str ⟨#[c]⟩) H'))
theorem ok_one {f : Addr} {fd : FuncData} (F : Fun K "_law_one" "_law_one" s_law_one f fd) (m_len : mg "len" = none) (C__law_next : Cl P w K mg base 1 "_law_next" ["_law_drawn", "_law_below"] spNext) : FnOk P w K mg base CX0 2 f fd ["_law_drawn", "_law_wares"] (spOne K) := by
  refine F.ok sc_law_one (fun vs H Q E h => ?_) (fun cdv A outer s H vs Q E hr h => ?_)
  · obtain ⟨g, B, x, rfl, _⟩ := h
    rfl
  · obtain ⟨g, B, x, rfl, hF, hB, h⟩ := h
    refine ⟨_, (pss_one (ps_ret (pe_ix ix_seq (pv 1) (pe_cl C__law_next (hr.mono (by omega)) (by rfl) (pa_cons (pv 0) (pa_cons (pe_callB call_len (by rfl) m_len (by decide +kernel) (pa_cons (pv 1) pa_nil)) pa_nil))) (fun _ _ => rfl)))), ?_⟩
    rcases h with ⟨p, xs, rfl, oP, hp, h0, h1, q⟩ | ⟨p, xs, rfl, hp, h0, h1, q⟩ | ⟨z, rfl, h0, h1, q⟩
    · refine ⟨.ref p, rfl, .ref g.d, rfl, .ref p, rfl, .ref p, xs.length, rfl, .inl ⟨_, SqL.of hp, rfl⟩, g, B, (xs.length : Int), rfl, hF, hB, by omega, by omega, fun i H' i0 i1 F' K' => .inl ?_⟩
      obtain ⟨v, hv, vm, _⟩ := atI_in (xs := xs) i0 i1
      exact ⟨p, xs, i, v, rfl, rfl, SqL.of (K'.off oP hp), hv, q v H' vm F' K'⟩
    · refine ⟨.ref p, rfl, .ref g.d, rfl, .ref p, rfl, .ref p, xs.length, rfl, .inr ⟨_, SqT.of hp, rfl⟩, g, B, (xs.length : Int), rfl, hF, hB, by omega, by omega, fun i H' i0 i1 F' K' => .inr (.inl ?_)⟩
      obtain ⟨v, hv, vm, _⟩ := atI_in (xs := xs) i0 i1
      exact ⟨p, xs, i, v, rfl, rfl, SqT.of (hF.tk K' p xs hp), hv, q v H' vm F' K'⟩
    · refine ⟨.str z, rfl, .ref g.d, rfl, .str z, rfl, .str z, z.length, rfl, ⟨sz (by omega), rfl⟩, g, B, (z.length : Int), rfl, hF, hB, by omega, by omega, fun i H' i0 i1 F' K' => .inr (.inr ?_)⟩
      have ez : z.cps.toList.length = z.length := by simp [Str.length]
      obtain ⟨c, hc, cm, _⟩ := atI_in (xs := z.cps.toList) i0 (by rw [ez]; exact i1)
      exact ⟨z, i, c, rfl, rfl, sz (by omega), hc, q c H' cm F' K'⟩
end
end Rt
namespace Dl
open PySem PySem.Spec PyProof.Rows L2 Rt

theorem isi_int (d : D) : isTy "int" d = some (.bool (match d with | .int _ => true | .bool _ => true | _ => false)) := by
  cases d <;> (unfold isTy tyN; first | rw [show kitB "NoneType" "int" = some false by decide +kernel] | rw [show kitB "bool" "int" = some true by decide +kernel] | rw [show kitB "int" "int" = some true by decide +kernel] | rw [show kitB "str" "int" = some false by decide +kernel] | rw [show kitB "list" "int" = some false by decide +kernel] | rw [show kitB "tuple" "int" = some false by decide +kernel] | rw [show kitB "dict" "int" = some false by decide +kernel]) <;> rfl
theorem isi_bool (d : D) : isTy "bool" d = some (.bool (match d with | .bool _ => true | _ => false)) := by
  cases d <;> (unfold isTy tyN; first | rw [show kitB "NoneType" "bool" = some false by decide +kernel] | rw [show kitB "bool" "bool" = some true by decide +kernel] | rw [show kitB "int" "bool" = some false by decide +kernel] | rw [show kitB "str" "bool" = some false by decide +kernel] | rw [show kitB "list" "bool" = some false by decide +kernel] | rw [show kitB "tuple" "bool" = some false by decide +kernel] | rw [show kitB "dict" "bool" = some false by decide +kernel]) <;> rfl
theorem isi_tuple (d : D) : isTy "tuple" d = some (.bool (match d with | .tuple _ => true | _ => false)) := by
  cases d <;> (unfold isTy tyN; first | rw [show kitB "NoneType" "tuple" = some false by decide +kernel] | rw [show kitB "bool" "tuple" = some false by decide +kernel] | rw [show kitB "int" "tuple" = some false by decide +kernel] | rw [show kitB "str" "tuple" = some false by decide +kernel] | rw [show kitB "list" "tuple" = some false by decide +kernel] | rw [show kitB "tuple" "tuple" = some true by decide +kernel] | rw [show kitB "dict" "tuple" = some false by decide +kernel]) <;> rfl
theorem isi_str (d : D) : isTy "str" d = some (.bool (match d with | .str _ => true | _ => false)) := by
  cases d <;> (unfold isTy tyN; first | rw [show kitB "NoneType" "str" = some false by decide +kernel] | rw [show kitB "bool" "str" = some false by decide +kernel] | rw [show kitB "int" "str" = some false by decide +kernel] | rw [show kitB "str" "str" = some true by decide +kernel] | rw [show kitB "list" "str" = some false by decide +kernel] | rw [show kitB "tuple" "str" = some false by decide +kernel] | rw [show kitB "dict" "str" = some false by decide +kernel]) <;> rfl
/-! ### what the values are -/
def isNum : D → Bool
  | .int _ => true
  | _ => false
def isFrom (lo hi : Int) : D → Bool
  | .int i => decide (lo ≤ i) && decide (i ≤ hi)
  | _ => false
def isRow (lo hi : Int) : D → Bool
  | .tuple ds => decide (lo ≤ ds.length) && decide ((ds.length : Int) ≤ hi)
  | _ => false
def sNum : List D → Option D
  | [d] => some (.bool (isNum d))
  | _ => none
def sFrom : List D → Option D
  | [d, .int lo, .int hi] => some (.bool (isFrom lo hi d))
  | _ => none
def sRow : List D → Option D
  | [d, .int lo, .int hi] => some (.bool (isRow lo hi d))
  | _ => none
section
variable {P : Program} {w : World} {K : PySem.W.Frag} {mg : Str → Option Value} {base : Heap}
theorem ok_num {f : Addr} {fd : FuncData} (F : Fun K "is_number" "is_number" s_is_number f fd) (m_isinstance : mg "isinstance" = none) (m_int : mg "int" = none) (m_bool : mg "bool" = none) : FnOk P w K mg base CX0 1 f fd ["thing"] (spD 1 sNum) := by
  refine okFn F sc_is_number rfl fun cdv A outer s H E hr => ⟨_, (dSs_one (dS_ret (ps_ret (dE_and (dE_isi (dE_var (μ := true) (pv 0)) (pe_bltn (v := .ty "int") (by rfl) m_int (by decide +kernel) rfl) (by rfl) m_isinstance (by decide +kernel)) (dE_one (dE_not (dE_isi (dE_var (μ := true) (pv 0)) (pe_bltn (v := .ty "bool") (by rfl) m_bool (by decide +kernel) rfl) (by rfl) m_isinstance (by decide +kernel)))))))), fun ds d l e => ?_⟩
  match ds, e with
  | [x], e =>
    cases e
    refine ⟨.rt (.bool (isNum x)), ?_, rfl⟩
    simp only [startR, sRet, eAnd, eNot, e1, eVar, isi_int, isi_bool]
    cases x <;> rfl
theorem ok_from {f : Addr} {fd : FuncData} (F : Fun K "is_number_from" "is_number_from" s_is_number_from f fd) (C_is_number : Cl P w K mg base 1 "is_number" ["thing"] (spD 1 sNum)) : FnOk P w K mg base CX0 2 f fd ["thing", "low", "high"] (spD 3 sFrom) := by
  refine okFn F sc_is_number_from rfl fun cdv A outer s H E hr => ⟨_, (dSs_one (dS_ret (ps_ret (dE_and (dE_cl C_is_number (hr.mono (by omega)) (by rfl) (dA_cons (dE_var (μ := true) (pv 0)) (dA_nil (μ := true)))) (dE_one (dE_chain o_le o_le (dE_var (μ := true) (pv 1)) (dE_var (μ := true) (pv 0)) (dE_var (μ := true) (pv 2)))))))), fun ds d l e => ?_⟩
  match ds, e with
  | [x, .int lo, .int hi], e =>
    cases e
    refine ⟨.rt (.bool (isFrom lo hi x)), ?_, rfl⟩
    cases x <;> try rfl
    rename_i i
    by_cases h : lo ≤ i <;> simp [startR, sRet, eAnd, eCall, gN, aCons, aNil, sNum, eVar, eChain, isNum, isFrom, leD, bB, h]
theorem ok_row {f : Addr} {fd : FuncData} (F : Fun K "is_row" "is_row" s_is_row f fd) (m_isinstance : mg "isinstance" = none) (m_tuple : mg "tuple" = none) (m_len : mg "len" = none) : FnOk P w K mg base CX0 1 f fd ["thing", "fewest", "most"] (spD 3 sRow) := by
  refine okFn F sc_is_row rfl fun cdv A outer s H E hr => ⟨_, (dSs_one (dS_ret (ps_ret (dE_and (dE_isi (dE_var (μ := true) (pv 0)) (pe_bltn (v := .ty "tuple") (by rfl) m_tuple (by decide +kernel) rfl) (by rfl) m_isinstance (by decide +kernel)) (dE_one (dE_chain o_le o_le (dE_var (μ := true) (pv 1)) (dE_callB c_len (by rfl) m_len (by decide +kernel) (dA_cons (dE_var (μ := true) (pv 0)) (dA_nil (μ := true)))) (dE_var (μ := true) (pv 2)))))))), fun ds d l e => ?_⟩
  match ds, e with
  | [x, .int lo, .int hi], e =>
    cases e
    refine ⟨.rt (.bool (isRow lo hi x)), ?_, rfl⟩
    simp only [startR, sRet, eAnd, e1, eVar, isi_tuple]
    cases x <;> try rfl
    rename_i xs
    by_cases h : lo ≤ xs.length <;> simp [isi_tuple, eChain, eCall, aCons, aNil, lenD, eVar, isRow, leD, bB, h]
end
end Dl
namespace Dl
open PySem PySem.Spec PyProof.Rows L2 Rt
def S (x : String) : D := .str (Str.ofString x)
/-- a fault: its path and its word -/
def flt (path : List Int) (word : String) : D := .tuple [.tuple (path.map .int), S word]
def kindIn (ks : List D) (a : D) : Bool := ks.any fun z => PyData.eqv z a
def srcF (n : Int) (ks : List D) : D → D
  | .tuple [a, b, c, e, f] => if kindIn ks a = false then flt [0] "kind" else if isFrom 0 20 b = false then flt [1] "age" else if isFrom 0 (n - 1) c = false then flt [2] "place" else if isFrom 0 1000000 e = false then flt [3] "since" else if isFrom 1 9 f = false then flt [4] "many" else .none
  | _ => flt [] "source"
def sSrc : List D → Option D
  | [.int n, .tuple ks, d] => if (okD (.tuple ks) && okD d) = true then some (srcF n ks d) else none
  | _ => none
theorem isRow_five {d : D} (h : isRow 5 5 d = true) : ∃ a b c e f, d = .tuple [a, b, c, e, f] := by
  cases d <;> try (cases h; done)
  rename_i ds
  have : ds.length = 5 := by
    simp [isRow] at h
    omega
  match ds, this with
  | [a, b, c, e, f], _ => exact ⟨a, b, c, e, f, rfl⟩
section
variable {P : Program} {w : World} {K : PySem.W.Frag} {mg : Str → Option Value} {base : Heap}
theorem ok_src {f : Addr} {fd : FuncData} {t1 t2 t3 : Tok} (F : Fun K "source_fault" "source_fault" s_source_fault f fd) (g_OLD : mg "OLD" = some (.int 20 t1)) (g_SINCE : mg "SINCE" = some (.int 1000000 t2)) (g_MANY : mg "MANY" = some (.int 9 t3))
    (C_is_row : Cl P w K mg base 1 "is_row" ["thing", "fewest", "most"] (spD 3 sRow)) (C_is_number_from : Cl P w K mg base 2 "is_number_from" ["thing", "low", "high"] (spD 3 sFrom)) : FnOk P w K mg base CX0 3 f fd ["span", "kinds", "source"] (spD 3 sSrc) := by
  refine okFn F sc_source_fault rfl fun cdv A outer s H E hr => ⟨_, (dSs_cons (dS_if (dT_not (dT_val (dE_cl C_is_row (hr.mono (by omega)) (by rfl) (dA_cons (dE_var (μ := true) (pv 2)) (dA_cons (dE_c (μ := true) pe_int) (dA_cons (dE_c (μ := true) pe_int) (dA_nil (μ := true))))))))
    (dSs_one (dS_ret (ps_ret (dE_tup (dA_cons (dE_tup (dA_nil (μ := true))) (dA_cons (dE_c (μ := true) pe_str) (dA_nil (μ := true))))))))
    dSs_nil)
  (dSs_cons (dS_asg (K := K) (p := (.tp (.cons (.nm 3) (.cons (.nm 4) (.cons (.nm 5) (.cons (.nm 6) (.cons (.nm 7) .nil))))))) (ps_asg (dE_var (μ := true) (pv 2)) (pg_tup (by rfl) (pgs_cons (pg_name (i := 3) sc_source_fault.nd rfl (.inl rfl)) (pgs_cons (pg_name (i := 4) sc_source_fault.nd rfl (.inl rfl)) (pgs_cons (pg_name (i := 5) sc_source_fault.nd rfl (.inl rfl)) (pgs_cons (pg_name (i := 6) sc_source_fault.nd rfl (.inl rfl)) (pgs_cons (pg_name (i := 7) sc_source_fault.nd rfl (.inl rfl)) pgs_nil))))))))
  (dSs_cons (dS_if (dT_cmp (o_nin (u65 hr)) (dE_var (μ := true) (pv 3)) (dE_var (μ := true) (pv 1)) (by rfl))
    (dSs_one (dS_ret (ps_ret (dE_tup (dA_cons (dE_tup (dA_cons (dE_c (μ := true) pe_int) (dA_nil (μ := true)))) (dA_cons (dE_c (μ := true) pe_str) (dA_nil (μ := true))))))))
    dSs_nil)
  (dSs_cons (dS_if (dT_not (dT_val (dE_cl C_is_number_from (hr.mono (by omega)) (by rfl) (dA_cons (dE_var (μ := true) (pv 4)) (dA_cons (dE_c (μ := true) pe_int) (dA_cons (dE_c (μ := true) (pe_glob (v := .int 20) (by rfl) g_OLD ⟨_, rfl⟩)) (dA_nil (μ := true))))))))
    (dSs_one (dS_ret (ps_ret (dE_tup (dA_cons (dE_tup (dA_cons (dE_c (μ := true) pe_int) (dA_nil (μ := true)))) (dA_cons (dE_c (μ := true) pe_str) (dA_nil (μ := true))))))))
    dSs_nil)
  (dSs_cons (dS_if (dT_not (dT_val (dE_cl C_is_number_from (hr.mono (by omega)) (by rfl) (dA_cons (dE_var (μ := true) (pv 5)) (dA_cons (dE_c (μ := true) pe_int) (dA_cons (dE_op o_sub (dE_var (μ := true) (pv 0)) (dE_c (μ := true) pe_int)) (dA_nil (μ := true))))))))
    (dSs_one (dS_ret (ps_ret (dE_tup (dA_cons (dE_tup (dA_cons (dE_c (μ := true) pe_int) (dA_nil (μ := true)))) (dA_cons (dE_c (μ := true) pe_str) (dA_nil (μ := true))))))))
    dSs_nil)
  (dSs_cons (dS_if (dT_not (dT_val (dE_cl C_is_number_from (hr.mono (by omega)) (by rfl) (dA_cons (dE_var (μ := true) (pv 6)) (dA_cons (dE_c (μ := true) pe_int) (dA_cons (dE_c (μ := true) (pe_glob (v := .int 1000000) (by rfl) g_SINCE ⟨_, rfl⟩)) (dA_nil (μ := true))))))))
    (dSs_one (dS_ret (ps_ret (dE_tup (dA_cons (dE_tup (dA_cons (dE_c (μ := true) pe_int) (dA_nil (μ := true)))) (dA_cons (dE_c (μ := true) pe_str) (dA_nil (μ := true))))))))
    dSs_nil)
  (dSs_cons (dS_if (dT_not (dT_val (dE_cl C_is_number_from (hr.mono (by omega)) (by rfl) (dA_cons (dE_var (μ := true) (pv 7)) (dA_cons (dE_c (μ := true) pe_int) (dA_cons (dE_c (μ := true) (pe_glob (v := .int 9) (by rfl) g_MANY ⟨_, rfl⟩)) (dA_nil (μ := true))))))))
    (dSs_one (dS_ret (ps_ret (dE_tup (dA_cons (dE_tup (dA_cons (dE_c (μ := true) pe_int) (dA_nil (μ := true)))) (dA_cons (dE_c (μ := true) pe_str) (dA_nil (μ := true))))))))
    dSs_nil)
  (dSs_one (dS_ret (ps_ret (dE_c (μ := true) pe_non))))))))))), fun ds d l e => ?_⟩
  match ds, e with
  | [.int n, .tuple ks, x], e =>
    obtain ⟨ok, rfl⟩ := iteS e
    have ok := Bool.and_eq_true_iff.mp ok
    refine ⟨.rt (srcF n ks x), ?_, rfl⟩
    refine (ev_guard (b := !isRow 5 5 x) rfl rfl).trans ?_
    cases h0 : isRow 5 5 x with
    | false =>
      have : srcF n ks x = flt [] "source" := by
        unfold srcF
        split
        · cases h0
        · rfl
      rw [this]
      rfl
    | true =>
      obtain ⟨a, b, c, e', f', rfl⟩ := isRow_five h0
      have oa := okD.tup ok.2 a (by simp)
      refine (ev_asg rfl rfl).trans ?_
      refine (ev_guard (b := !kindIn ks a) (by show ((ninD a (.tuple ks)).bind bB) = _; rw [nin_tup oa ok.1]; rfl) rfl).trans ?_
      cases h1 : kindIn ks a with
      | false => simp only [srcF, h1]; rfl
      | true =>
        refine (ev_guard (b := !isFrom 0 20 b) rfl rfl).trans ?_
        cases h2 : isFrom 0 20 b with
        | false => simp only [srcF, h1, h2]; rfl
        | true =>
          refine (ev_guard (b := !isFrom 0 (n - 1) c) rfl rfl).trans ?_
          cases h3 : isFrom 0 (n - 1) c with
          | false => simp only [srcF, h1, h2, h3]; rfl
          | true =>
            refine (ev_guard (b := !isFrom 0 1000000 e') rfl rfl).trans ?_
            cases h4 : isFrom 0 1000000 e' with
            | false => simp only [srcF, h1, h2, h3, h4]; rfl
            | true =>
              refine (ev_guard (b := !isFrom 1 9 f') rfl rfl).trans ?_
              cases h5 : isFrom 1 9 f' with
              | false => simp only [srcF, h1, h2, h3, h4, h5]; rfl
              | true => simp only [srcF, h1, h2, h3, h4, h5]; rfl
end
end Dl
namespace Dl
open PySem PySem.Spec PyProof.Rows L2 Rt
def below (p : List D) : D → D
  | .tuple [.tuple i, w] => .tuple [.tuple (p ++ i), w]
  | d => d
/-- what is told of a part of it: nothing, or a short path and a word -/
def FltP (d : D) : Prop := d = .none ∨ ∃ i w, d = .tuple [.tuple i, w] ∧ i.length ≤ 10
def firstF (pre : List D) (f : D → D) : Nat → List D → D
  | _, [] => .none
  | k, x :: xs => match f x with
    | .none => firstF pre f (k + 1) xs
    | d => below (pre ++ [PyData.int k]) d
theorem firstF_none {pre : List D} {f : D → D} {k : Nat} {x : D} {xs : List D} (h : f x = .none) : firstF pre f k (x :: xs) = firstF pre f (k + 1) xs := by
  show (match f x with | .none => firstF pre f (k + 1) xs | d => below (pre ++ [PyData.int k]) d) = _
  rw [h]
theorem firstF_some {pre : List D} {f : D → D} {k : Nat} {x : D} {xs : List D} (h : f x ≠ .none) : firstF pre f k (x :: xs) = below (pre ++ [PyData.int k]) (f x) := by
  show (match f x with | .none => firstF pre f (k + 1) xs | d => below (pre ++ [PyData.int k]) d) = _
  split
  · rename_i e; exact (h e).elim
  · rfl
theorem below_ne {p : List D} {d : D} (h : d ≠ .none) : below p d ≠ .none := by
  unfold below
  split
  · intro z; cases z
  · exact h
theorem ev_first {p : Pat} {body : Rho → Option Out} {f : D → D} {pre : List D} (I : Rho → Prop) : ∀ (xs : List D) (k : Nat) (ρ : Rho), I ρ → (∀ k x ρ, x ∈ xs → I ρ → ∃ ρ1, bindP p (.tuple [.int (k : Nat), x]) ρ = some ρ1 ∧ ((f x = .none ∧ ∃ ρ2, I ρ2 ∧ body ρ1 = some (.nx ρ2)) ∨ (f x ≠ .none ∧ body ρ1 = some (.rt (below (pre ++ [PyData.int (k : Nat)]) (f x)))))) →
    (∃ ρ', I ρ' ∧ firstF pre f k xs = .none ∧ forGo p body (enGo k xs) ρ = some (.nx ρ')) ∨ (firstF pre f k xs ≠ .none ∧ forGo p body (enGo k xs) ρ = some (.rt (firstF pre f k xs)))
  | [], k, ρ, i, _ => .inl ⟨ρ, i, rfl, rfl⟩
  | x :: xs, k, ρ, i, hb => by
    obtain ⟨ρ1, e1, h⟩ := hb k x ρ (by simp) i
    have fg : forGo p body (enGo k (x :: xs)) ρ = (body ρ1).bind fun o => match o with
      | .nx ρ2 => forGo p body (enGo (k + 1) xs) ρ2
      | .ct ρ2 => forGo p body (enGo (k + 1) xs) ρ2
      | .bk ρ2 => some (.nx ρ2)
      | .rt d => some (.rt d) := by
      show (bindP p (.tuple [.int k, x]) ρ).bind _ = _
      rw [e1]
      rfl
    rw [fg]
    rcases h with ⟨ht, ρ2, i2, e2⟩ | ⟨ht, e2⟩
    · rw [e2, firstF_none ht]
      exact ev_first I xs (k + 1) ρ2 i2 fun k x ρ m => hb k x ρ (by simp [m])
    · rw [e2, firstF_some ht]
      exact .inr ⟨below_ne ht, rfl⟩
theorem ev_firstS {it : Rho → Option (List D)} {p : Pat} {body rest : Rho → Option Out} {ρ : Rho} {xs : List D} {f : D → D} {pre : List D} (I : Rho → Prop) (hit : it ρ = some (enGo 0 xs)) (i0 : I ρ)
    (hb : ∀ k x ρ, x ∈ xs → I ρ → ∃ ρ1, bindP p (.tuple [.int (k : Nat), x]) ρ = some ρ1 ∧ ((f x = .none ∧ ∃ ρ2, I ρ2 ∧ body ρ1 = some (.nx ρ2)) ∨ (f x ≠ .none ∧ body ρ1 = some (.rt (below (pre ++ [PyData.int (k : Nat)]) (f x))))))
    (hn : ∀ ρ', I ρ' → rest ρ' = some (.rt .none)) : sSeq (sFor it p body) rest ρ = some (.rt (firstF pre f 0 xs)) := by
  have e : sFor it p body ρ = forGo p body (enGo 0 xs) ρ := by
    unfold sFor
    rw [hit]
    rfl
  rcases ev_first (f := f) (pre := pre) I xs 0 ρ i0 hb with ⟨ρ', i', e1, e2⟩ | ⟨e1, e2⟩
  · exact (ev_seq (e.trans e2)).trans (by rw [e1]; exact hn ρ' i')
  · exact ev_seqR (e.trans e2)
def partF (ks : List D) : D → D
  | .tuple [a, b, c] => if kindIn ks a = false then flt [0] "kind" else match b with
    | .int l => if isFrom 0 20 (.int l) = false then flt [1] "least" else if isFrom l 20 c = false then flt [2] "greatest" else .none
    | _ => flt [1] "least"
  | _ => flt [] "part"
def partsF (ks : List D) : D → D
  | .tuple ds => if isRow 1 3 (.tuple ds) = false then flt [] "parts" else firstF [] (partF ks) 0 ds
  | _ => flt [] "parts"
def sPartF : List D → Option D
  | [.tuple ks, d] => if (okD (.tuple ks) && okD d) = true then some (partF ks d) else none
  | _ => none
def sPartsF : List D → Option D
  | [.tuple ks, d] => if (okD (.tuple ks) && okD d) = true then some (partsF ks d) else none
  | _ => none
def sBelow : List D → Option D
  | [.tuple p, .tuple [.tuple i, w]] => if p.length + i.length ≤ sizeLine then some (below p (.tuple [.tuple i, w])) else none
  | _ => none
theorem flt_P {p : List Int} {w : String} (h : p.length ≤ 10) : FltP (flt p w) := .inr ⟨_, _, rfl, by rw [List.length_map]; exact h⟩
theorem below_P {p : List D} {d : D} (h : FltP d) (n : Nat) (hd : ∀ i w, d = .tuple [.tuple i, w] → p.length + i.length ≤ 10) : FltP (below p d) := by
  rcases h with rfl | ⟨i, w, rfl, _⟩
  · exact .inl rfl
  · exact .inr ⟨_, _, rfl, by rw [List.length_append]; exact hd i w rfl⟩
theorem isRow_three {d : D} (h : isRow 3 3 d = true) : ∃ a b c, d = .tuple [a, b, c] := by
  cases d <;> try (cases h; done)
  rename_i ds
  have : ds.length = 3 := by
    simp [isRow] at h
    omega
  match ds, this with
  | [a, b, c], _ => exact ⟨a, b, c, rfl⟩
theorem isRow_tup {lo hi : Int} {d : D} (h : isRow lo hi d = true) : ∃ ds, d = .tuple ds := by
  cases d <;> try (cases h; done)
  exact ⟨_, rfl⟩
theorem isFrom_int {lo hi : Int} {d : D} (h : isFrom lo hi d = true) : ∃ i, d = .int i := by
  cases d <;> try (cases h; done)
  exact ⟨_, rfl⟩
/-- none, or a path of at most n -/
def FltN (n : Nat) (d : D) : Prop := d = .none ∨ ∃ i w, d = .tuple [.tuple i, w] ∧ i.length ≤ n
theorem fltN {n : Nat} {p : List Int} {w : String} (h : p.length ≤ n) : FltN n (flt p w) := .inr ⟨_, _, rfl, by rw [List.length_map]; exact h⟩
theorem partF_N (ks : List D) (d : D) : FltN 1 (partF ks d) := by
  unfold partF
  split
  · split
    · exact fltN (by decide)
    · split
      · split
        · exact fltN (by decide)
        · split
          · exact fltN (by decide)
          · exact .inl rfl
      · exact fltN (by decide)
  · exact fltN (by decide)
theorem firstF_N {pre : List D} {f : D → D} {n m : Nat} (hf : ∀ x, FltN n (f x)) (hp : pre.length + 1 + n ≤ m) : ∀ (xs : List D) (k : Nat), FltN m (firstF pre f k xs)
  | [], _ => .inl rfl
  | x :: xs, k => by
    by_cases h : f x = .none
    · rw [firstF_none h]; exact firstF_N hf hp xs (k + 1)
    · rw [firstF_some h]
      rcases hf x with e | ⟨i, w, e, l⟩
      · exact (h e).elim
      · rw [e]
        exact .inr ⟨_, _, rfl, by simp; omega⟩
theorem partsF_N (ks : List D) (d : D) : FltN 2 (partsF ks d) := by
  unfold partsF
  split
  · split
    · exact fltN (by decide)
    · exact firstF_N (n := 1) (partF_N ks) (by simp) _ _
  · exact fltN (by decide)
theorem noN (d : D) : noND d .none = some (.bool (match d with | .none => false | _ => true)) := by cases d <;> rfl
section
variable {P : Program} {w : World} {K : PySem.W.Frag} {mg : Str → Option Value} {base : Heap}
theorem ok_below {f : Addr} {fd : FuncData} (F : Fun K "fault_below" "fault_below" s_fault_below f fd) : FnOk P w K mg base CX0 1 f fd ["path", "fault"] (spD 2 sBelow) := by
  refine okFn F sc_fault_below rfl fun cdv A outer s H E hr => ⟨_, (dSs_cons (dS_asg (K := K) (p := (.tp (.cons (.nm 2) (.cons (.nm 3) .nil)))) (ps_asg (dE_var (μ := true) (pv 1)) (pg_tup (by rfl) (pgs_cons (pg_name (i := 2) sc_fault_below.nd rfl (.inl rfl)) (pgs_cons (pg_name (i := 3) sc_fault_below.nd rfl (.inl rfl)) pgs_nil)))))
  (dSs_one (dS_ret (ps_ret (dE_tup (dA_cons (dE_op o_add (dE_var (μ := true) (pv 0)) (dE_var (μ := true) (pv 2))) (dA_cons (dE_var (μ := true) (pv 3)) (dA_nil (μ := true))))))))), fun ds d l e => ?_⟩
  match ds, e with
  | [.tuple p, .tuple [.tuple i, w]], e =>
    obtain ⟨l2, rfl⟩ := iteS e
    refine ⟨.rt (below p (.tuple [.tuple i, w])), ?_, rfl⟩
    refine (ev_asg rfl rfl).trans (ev_ret ?_)
    show ((addD (.tuple p) (.tuple i)).bind _).bind _ = _
    rw [add_tup l2]
    rfl
theorem ok_partF {f : Addr} {fd : FuncData} {t1 : Tok} (F : Fun K "part_fault" "part_fault" s_part_fault f fd) (g_OLD : mg "OLD" = some (.int 20 t1))
    (C_is_row : Cl P w K mg base 1 "is_row" ["thing", "fewest", "most"] (spD 3 sRow)) (C_is_number_from : Cl P w K mg base 2 "is_number_from" ["thing", "low", "high"] (spD 3 sFrom)) : FnOk P w K mg base CX0 3 f fd ["kinds", "part"] (spD 2 sPartF) := by
  refine okFn F sc_part_fault rfl fun cdv A outer s H E hr => ⟨_, (dSs_cons (dS_if (dT_not (dT_val (dE_cl C_is_row (hr.mono (by omega)) (by rfl) (dA_cons (dE_var (μ := true) (pv 1)) (dA_cons (dE_c (μ := true) pe_int) (dA_cons (dE_c (μ := true) pe_int) (dA_nil (μ := true))))))))
    (dSs_one (dS_ret (ps_ret (dE_tup (dA_cons (dE_tup (dA_nil (μ := true))) (dA_cons (dE_c (μ := true) pe_str) (dA_nil (μ := true))))))))
    dSs_nil)
  (dSs_cons (dS_asg (K := K) (p := (.tp (.cons (.nm 2) (.cons (.nm 3) (.cons (.nm 4) .nil))))) (ps_asg (dE_var (μ := true) (pv 1)) (pg_tup (by rfl) (pgs_cons (pg_name (i := 2) sc_part_fault.nd rfl (.inl rfl)) (pgs_cons (pg_name (i := 3) sc_part_fault.nd rfl (.inl rfl)) (pgs_cons (pg_name (i := 4) sc_part_fault.nd rfl (.inl rfl)) pgs_nil))))))
  (dSs_cons (dS_if (dT_cmp (o_nin (u65 hr)) (dE_var (μ := true) (pv 2)) (dE_var (μ := true) (pv 0)) (by rfl))
    (dSs_one (dS_ret (ps_ret (dE_tup (dA_cons (dE_tup (dA_cons (dE_c (μ := true) pe_int) (dA_nil (μ := true)))) (dA_cons (dE_c (μ := true) pe_str) (dA_nil (μ := true))))))))
    dSs_nil)
  (dSs_cons (dS_if (dT_not (dT_val (dE_cl C_is_number_from (hr.mono (by omega)) (by rfl) (dA_cons (dE_var (μ := true) (pv 3)) (dA_cons (dE_c (μ := true) pe_int) (dA_cons (dE_c (μ := true) (pe_glob (v := .int 20) (by rfl) g_OLD ⟨_, rfl⟩)) (dA_nil (μ := true))))))))
    (dSs_one (dS_ret (ps_ret (dE_tup (dA_cons (dE_tup (dA_cons (dE_c (μ := true) pe_int) (dA_nil (μ := true)))) (dA_cons (dE_c (μ := true) pe_str) (dA_nil (μ := true))))))))
    dSs_nil)
  (dSs_cons (dS_if (dT_not (dT_val (dE_cl C_is_number_from (hr.mono (by omega)) (by rfl) (dA_cons (dE_var (μ := true) (pv 4)) (dA_cons (dE_var (μ := true) (pv 3)) (dA_cons (dE_c (μ := true) (pe_glob (v := .int 20) (by rfl) g_OLD ⟨_, rfl⟩)) (dA_nil (μ := true))))))))
    (dSs_one (dS_ret (ps_ret (dE_tup (dA_cons (dE_tup (dA_cons (dE_c (μ := true) pe_int) (dA_nil (μ := true)))) (dA_cons (dE_c (μ := true) pe_str) (dA_nil (μ := true))))))))
    dSs_nil)
  (dSs_one (dS_ret (ps_ret (dE_c (μ := true) pe_non))))))))), fun ds d l e => ?_⟩
  match ds, e with
  | [.tuple ks, x], e =>
    obtain ⟨ok, rfl⟩ := iteS e
    have ok := Bool.and_eq_true_iff.mp ok
    refine ⟨.rt (partF ks x), ?_, rfl⟩
    refine (ev_guard (b := !isRow 3 3 x) rfl rfl).trans ?_
    cases h0 : isRow 3 3 x with
    | false =>
      have : partF ks x = flt [] "part" := by
        unfold partF
        split
        · cases h0
        · rfl
      rw [this]
      rfl
    | true =>
      obtain ⟨a, b, c, rfl⟩ := isRow_three h0
      have oa := okD.tup ok.2 a (by simp)
      refine (ev_asg rfl rfl).trans ?_
      refine (ev_guard (b := !kindIn ks a) (by show ((ninD a (.tuple ks)).bind bB) = _; rw [nin_tup oa ok.1]; rfl) rfl).trans ?_
      cases h1 : kindIn ks a with
      | false => simp only [partF, h1]; rfl
      | true =>
        refine (ev_guard (b := !isFrom 0 20 b) rfl rfl).trans ?_
        cases h2 : isFrom 0 20 b with
        | false =>
          simp only [partF, h1]
          cases b <;> try rfl
          simp only [h2]
          rfl
        | true =>
          obtain ⟨lo, rfl⟩ := isFrom_int h2
          refine (ev_guard (b := !isFrom lo 20 c) rfl rfl).trans ?_
          cases h3 : isFrom lo 20 c <;> (simp only [partF, h1, h2, h3]; rfl)
theorem ok_partsF {f : Addr} {fd : FuncData} {t1 : Tok} (F : Fun K "parts_fault" "parts_fault" s_parts_fault f fd) (g_PARTS : mg "PARTS" = some (.int 3 t1)) (m_enumerate : mg "enumerate" = none)
    (C_is_row : Cl P w K mg base 1 "is_row" ["thing", "fewest", "most"] (spD 3 sRow)) (C_part_fault : Cl P w K mg base 3 "part_fault" ["kinds", "part"] (spD 2 sPartF)) (C_fault_below : Cl P w K mg base 1 "fault_below" ["path", "fault"] (spD 2 sBelow)) : FnOk P w K mg base CX0 4 f fd ["kinds", "parts"] (spD 2 sPartsF) := by
  refine okFn F sc_parts_fault rfl fun cdv A outer s H E hr => ⟨_, (dSs_cons (dS_if (dT_not (dT_val (dE_cl C_is_row (hr.mono (by omega)) (by rfl) (dA_cons (dE_var (μ := true) (pv 1)) (dA_cons (dE_c (μ := true) pe_int) (dA_cons (dE_c (μ := true) (pe_glob (v := .int 3) (by rfl) g_PARTS ⟨_, rfl⟩)) (dA_nil (μ := true))))))))
    (dSs_one (dS_ret (ps_ret (dE_tup (dA_cons (dE_tup (dA_nil (μ := true))) (dA_cons (dE_c (μ := true) pe_str) (dA_nil (μ := true))))))))
    dSs_nil)
  (dSs_cons (dS_for (K := K) (p := (.tp (.cons (.nm 2) (.cons (.nm 3) .nil)))) (ps_for PassesOwn.never rfl (dI_enum (by rfl) m_enumerate (dA_cons (dE_var (μ := true) (pv 1)) (dA_nil (μ := true)))) (pg_tup (by rfl) (pgs_cons (pg_name (i := 2) sc_parts_fault.nd rfl (.inl rfl)) (pgs_cons (pg_name (i := 3) sc_parts_fault.nd rfl (.inl rfl)) pgs_nil)))
    (dSs_cons (dS_asg (K := K) (p := .nm 4) (ps_set (i := 4) sc_parts_fault.nd rfl (.inl rfl) (dE_cl C_part_fault (hr.mono (by omega)) (by rfl) (dA_cons (dE_var (μ := true) (pv 0)) (dA_cons (dE_var (μ := true) (pv 3)) (dA_nil (μ := true)))))))
  (dSs_one (dS_if (dT_cmp o_isnot (dE_var (μ := true) (pv 4)) (dE_c (μ := true) pe_non) (nomark _))
    (dSs_one (dS_ret (ps_ret (dE_cl C_fault_below (hr.mono (by omega)) (by rfl) (dA_cons (dE_tup (dA_cons (dE_var (μ := true) (pv 2)) (dA_nil (μ := true)))) (dA_cons (dE_var (μ := true) (pv 4)) (dA_nil (μ := true))))))))
    dSs_nil)))))
  (dSs_one (dS_ret (ps_ret (dE_c (μ := true) pe_non)))))), fun ds d l e => ?_⟩
  match ds, e with
  | [.tuple ks, x], e =>
    obtain ⟨ok, rfl⟩ := iteS e
    have ok := Bool.and_eq_true_iff.mp ok
    refine ⟨.rt (partsF ks x), ?_, rfl⟩
    refine (ev_guard (b := !isRow 1 3 x) rfl rfl).trans ?_
    cases h0 : isRow 1 3 x with
    | false =>
      have : partsF ks x = flt [] "parts" := by
        unfold partsF
        split
        · rw [h0]; rfl
        · rfl
      rw [this]
      rfl
    | true =>
      obtain ⟨xs, rfl⟩ := isRow_tup h0
      have ep : partsF ks (.tuple xs) = firstF [] (partF ks) 0 xs := by simp only [partsF, h0]; rfl
      rw [ep]
      refine ev_firstS (f := partF ks) (pre := []) (fun ρ => ∃ a b c, ρ = [some (.dat (.tuple ks)), some (.dat (.tuple xs)), a, b, c]) rfl ⟨_, _, _, rfl⟩ (fun k x ρ m i => ?_) (fun ρ i => by obtain ⟨a, b, c, rfl⟩ := i; rfl)
      · obtain ⟨a, b, c, rfl⟩ := i
        refine ⟨_, rfl, ?_⟩
        have ox := okD.tup ok.2 x m
        have ef : sPartF [.tuple ks, x] = some (partF ks x) := by
          show (if (okD (.tuple ks) && okD x) = true then some (partF ks x) else none) = _
          rw [if_pos (by rw [ok.1, ox]; rfl)]
        by_cases hn : partF ks x = .none
        · refine .inl ⟨hn, _, ⟨_, _, _, rfl⟩, (ev_asg (d := .none) (ev_call rfl rfl (ef.trans (by rw [hn]))) rfl).trans rfl⟩
        · refine .inr ⟨hn, ?_⟩
          rcases partF_N ks x with e | ⟨i, w, e, l⟩
          · exact (hn e).elim
          · refine (ev_asg (d := .tuple [.tuple i, w]) (ev_call rfl rfl (ef.trans (by rw [e]))) rfl).trans ?_
            refine (ev_ifR (b := true) rfl).trans (ev_ret (ev_call rfl rfl ?_))
            rw [e]
            exact if_pos (show 1 + i.length ≤ sizeLine from sz (by omega))
end
end Dl
namespace Dl
open PySem PySem.Spec PyProof.Rows L2 Rt
/-! ### the first of a row that something is told of -/
def firstG (g : Nat → D → Option D) : Nat → List D → Option D
  | _, [] => none
  | k, x :: xs => match g k x with
    | some d => some d
    | none => firstG g (k + 1) xs
theorem firstG_no {g : Nat → D → Option D} {k : Nat} {x : D} {xs : List D} (h : g k x = none) : firstG g k (x :: xs) = firstG g (k + 1) xs := by
  show (match g k x with | some d => some d | none => firstG g (k + 1) xs) = _
  rw [h]
theorem firstG_yes {g : Nat → D → Option D} {k : Nat} {x : D} {xs : List D} {d : D} (h : g k x = some d) : firstG g k (x :: xs) = some d := by
  show (match g k x with | some d => some d | none => firstG g (k + 1) xs) = _
  rw [h]
def gF (pre : List D) (f : D → D) (k : Nat) (x : D) : Option D := match f x with
  | .none => none
  | d => some (below (pre ++ [PyData.int k]) d)
theorem gF_none {pre : List D} {f : D → D} {k : Nat} {x : D} (h : f x = .none) : gF pre f k x = none := by unfold gF; rw [h]
theorem gF_some {pre : List D} {f : D → D} {k : Nat} {x : D} (h : f x ≠ .none) : gF pre f k x = some (below (pre ++ [PyData.int k]) (f x)) := by
  unfold gF
  split
  · rename_i e; exact (h e).elim
  · rfl
def orN : Option D → D
  | some d => d
  | none => .none
theorem firstG_F {pre : List D} {f : D → D} : ∀ (xs : List D) (k : Nat), orN (firstG (gF pre f) k xs) = firstF pre f k xs
  | [], _ => rfl
  | x :: xs, k => by
    by_cases h : f x = .none
    · rw [firstF_none h, firstG_no (gF_none h), firstG_F xs (k + 1)]
    · rw [firstF_some h, firstG_yes (gF_some h)]
      rfl
def Gone (ds : List D) (g : Nat → D → Option D) (k : Nat) : Prop := ∀ (j : Nat) y, j < k → ds[j]? = some y → g j y = none
def outG (o : Out) : Option D → Out
  | some d => .rt d
  | none => o
theorem ev_gGo {p : Pat} {body : Rho → Option Out} {g : Nat → D → Option D} {ds : List D} {it : Nat → D → D} (I : Rho → Prop)
    (hb : ∀ (k : Nat) x ρ, ds[k]? = some x → Gone ds g k → I ρ → ∃ ρ1, bindP p (it k x) ρ = some ρ1 ∧ ((g k x = none ∧ ∃ ρ2, I ρ2 ∧ body ρ1 = some (.nx ρ2)) ∨ ∃ d, g k x = some d ∧ body ρ1 = some (.rt d))) :
    ∀ (xs items : List D) (k : Nat) (ρ : Rho), ds.drop k = xs → items.length = xs.length → (∀ (j : Nat) x, xs[j]? = some x → items[j]? = some (it (k + j) x)) → Gone ds g k → I ρ → (∃ ρ', I ρ' ∧ firstG g k xs = none ∧ forGo p body items ρ = some (.nx ρ')) ∨ ∃ d, firstG g k xs = some d ∧ forGo p body items ρ = some (.rt d)
  | [], items, k, ρ, _, hl, _, _, i => by
    have : items = [] := List.length_eq_zero_iff.mp hl
    subst this
    exact .inl ⟨ρ, i, rfl, rfl⟩
  | x :: xs, [], k, ρ, _, hl, _, _, i => nomatch hl
  | x :: xs, y :: items, k, ρ, hd, hl, hi, gone, i => by
    have ex : ds[k]? = some x := by
      have := congrArg (·[0]?) hd
      simpa using this
    have ey : y = it k x := by
      have := hi 0 x rfl
      simpa using this
    subst ey
    obtain ⟨ρ1, e1, h⟩ := hb k x ρ ex gone i
    have fg : forGo p body (it k x :: items) ρ = (body ρ1).bind fun o => match o with
      | .nx ρ2 => forGo p body items ρ2
      | .ct ρ2 => forGo p body items ρ2
      | .bk ρ2 => some (.nx ρ2)
      | .rt d => some (.rt d) := by
      show (bindP p (it k x) ρ).bind _ = _
      rw [e1]
      rfl
    rw [fg]
    rcases h with ⟨ht, ρ2, i2, e2⟩ | ⟨d, ht, e2⟩
    · rw [e2, firstG_no ht]
      refine ev_gGo I hb xs items (k + 1) ρ2 ?_ (by simpa using hl) (fun j z hz => ?_) (fun j z hj hz => ?_) i2
      · rw [← List.drop_drop, hd]; rfl
      · have := hi (j + 1) z (by simpa using hz)
        rw [show k + 1 + j = k + (j + 1) by omega]
        simpa using this
      · by_cases e : j = k
        · subst e
          rw [ex] at hz
          cases hz
          exact ht
        · exact gone j z (by omega) hz
    · rw [e2, firstG_yes ht]
      exact .inr ⟨d, rfl, rfl⟩
theorem ev_enumG {it : Rho → Option (List D)} {p : Pat} {body rest : Rho → Option Out} {ρ : Rho} {ds : List D} {g : Nat → D → Option D} (I : Rho → Prop) (o : Out) (hit : it ρ = some (enGo 0 ds)) (i0 : I ρ)
    (hb : ∀ (k : Nat) x ρ, ds[k]? = some x → Gone ds g k → I ρ → ∃ ρ1, bindP p (.tuple [.int k, x]) ρ = some ρ1 ∧ ((g k x = none ∧ ∃ ρ2, I ρ2 ∧ body ρ1 = some (.nx ρ2)) ∨ ∃ d, g k x = some d ∧ body ρ1 = some (.rt d)))
    (hn : ∀ ρ', I ρ' → firstG g 0 ds = none → rest ρ' = some o) : sSeq (sFor it p body) rest ρ = some (outG o (firstG g 0 ds)) := by
  have e : sFor it p body ρ = forGo p body (enGo 0 ds) ρ := by
    unfold sFor
    rw [hit]
    rfl
  rcases ev_gGo (it := fun k x => .tuple [.int (k : Nat), x]) I hb ds (enGo 0 ds) 0 ρ rfl (enGo.len 0 ds) (fun j x hx => enGo.get 0 ds j x hx) (fun j y hj => absurd hj (by omega)) i0 with ⟨ρ', i', e1, e2⟩ | ⟨d, e1, e2⟩
  · rw [e1]
    exact (ev_seq (e.trans e2)).trans (hn ρ' i' e1)
  · rw [e1]
    exact ev_seqR (e.trans e2)
theorem rgD_len (lo : Int) (n : Nat) : (rgD lo n).length = n := by unfold rgD; rw [List.length_map, List.length_range]
theorem rgD_get {lo : Int} {n j : Nat} (h : j < n) : (rgD lo n)[j]? = some (.int (lo + j)) := by
  unfold rgD
  rw [List.getElem?_map, List.getElem?_range h]
  rfl
theorem ev_rangeG {it : Rho → Option (List D)} {p : Pat} {body rest : Rho → Option Out} {ρ : Rho} {ds : List D} {g : Nat → D → Option D} (I : Rho → Prop) (o : Out) (hit : it ρ = some (rgD 0 ds.length)) (i0 : I ρ)
    (hb : ∀ (k : Nat) x ρ, ds[k]? = some x → Gone ds g k → I ρ → ∃ ρ1, bindP p (.int k) ρ = some ρ1 ∧ ((g k x = none ∧ ∃ ρ2, I ρ2 ∧ body ρ1 = some (.nx ρ2)) ∨ ∃ d, g k x = some d ∧ body ρ1 = some (.rt d)))
    (hn : ∀ ρ', I ρ' → firstG g 0 ds = none → rest ρ' = some o) : sSeq (sFor it p body) rest ρ = some (outG o (firstG g 0 ds)) := by
  have e : sFor it p body ρ = forGo p body (rgD 0 ds.length) ρ := by
    unfold sFor
    rw [hit]
    rfl
  rcases ev_gGo (it := fun k _ => .int (k : Nat)) I hb ds (rgD 0 ds.length) 0 ρ rfl (rgD_len _ _) (fun j x hx => by
      have := rgD_get (lo := 0) (List.getElem?_eq_some_iff.mp hx).1
      simpa using this) (fun j y hj => absurd hj (by omega)) i0 with ⟨ρ', i', e1, e2⟩ | ⟨d, e1, e2⟩
  · rw [e1]
    exact (ev_seq (e.trans e2)).trans (hn ρ' i' e1)
  · rw [e1]
    exact ev_seqR (e.trans e2)
/-! ### names and kinds -/
def LET : List Nat := (Str.ofString "abcdefghijklmnopqrstuvwxyz").cps.toList
def isName : D → Bool
  | .str z => decide (1 ≤ (z.length : Int)) && decide ((z.length : Int) ≤ 8) && z.cps.toList.all fun c => decide (c ∈ LET)
  | _ => false
def ltS : D → D → Bool
  | .str a, .str b => decide (a.cps.toList < b.cps.toList)
  | _, _ => false
def badK (ds : List D) (k : Nat) (x : D) : Bool := !isName x || (decide (0 < k) && !(match ds[k - 1]? with | some y => ltS y x | none => false))
def gK (ds : List D) (k : Nat) (x : D) : Option D := if badK ds k x = true then some (flt [1, k] "name") else none
def kindsF : D → D
  | .tuple ds => if isRow 1 4 (.tuple ds) = false then flt [1] "kinds" else orN (firstG (gK ds) 0 ds)
  | _ => flt [1] "kinds"
def sName : List D → Option D
  | [d] => some (.bool (isName d))
  | _ => none
def sKindsF : List D → Option D
  | [d] => some (kindsF d)
  | _ => none
theorem isName_str {d : D} (h : isName d = true) : ∃ z, d = .str z := by
  cases d <;> try (cases h; done)
  exact ⟨_, rfl⟩
theorem rt_orN {d : Option D} : outG (.rt .none) d = .rt (orN d) := by cases d <;> rfl
section
variable {P : Program} {w : World} {K : PySem.W.Frag} {mg : Str → Option Value} {base : Heap}
theorem ok_name {f : Addr} {fd : FuncData} {t1 t2 : Tok} (F : Fun K "is_name" "is_name" s_is_name f fd) (m_isinstance : mg "isinstance" = none) (m_str : mg "str" = none) (m_len : mg "len" = none) (m_all : mg "all" = none) (g_LETTERS : mg "LETTERS" = some (.str (Str.ofString "abcdefghijklmnopqrstuvwxyz") t1)) (g_NAME_LENGTH : mg "NAME_LENGTH" = some (.int 8 t2)) : FnOk P w K mg base CX0 1 f fd ["thing"] (spD 1 sName) := by
  refine okFn F sc_is_name rfl fun cdv A outer s H E hr => ⟨_, (dSs_cons (dS_if (PW.pt (dW_or (dT_not (dT_val (dE_isi (dE_var (μ := true) (pv 0)) (pe_bltn (v := .ty "str") (by rfl) m_str (by decide +kernel) rfl) (by rfl) m_isinstance (by decide +kernel)))) (dW_or1 (dT_not (dT_chain o_le o_le (dE_c (μ := true) pe_int) (dE_callB c_len (by rfl) m_len (by decide +kernel) (dA_cons (dE_var (μ := true) (pv 0)) (dA_nil (μ := true)))) (dE_c (μ := true) (pe_glob (v := .int 8) (by rfl) g_NAME_LENGTH ⟨_, rfl⟩)))))))
    (dSs_one (dS_ret (ps_ret (dE_c (μ := true) pe_bl))))
    dSs_nil)
  (dSs_one (dS_ret (ps_ret (dE_callB (c_all rfl) (by rfl) m_all (by decide +kernel) (dA_cons (dE_lc (K := K) (p := (.nm 1)) (pe_lc (own := [("sign", 1)]) (g := gP K (.nm 1)) rfl sc_is_name.nd (dI_str (dE_var (μ := true) (pv 0))) (blkOk_by (own := [("sign", 1)]) (N := ["thing", "sign"]) (sc := defScope s_is_name) (by decide +kernel)) (fun _ _ _ _ _ => (pg_name (i := 1) sc_is_name.nd rfl (.inl rfl))) (fun _ _ _ _ _ => dTs_nil) (fun _ _ _ _ _ => (dE_cmp (o_in (u65 hr)) (dE_var (μ := true) (pv 1)) (dE_c (μ := true) (pe_glob (v := .str (Str.ofString "abcdefghijklmnopqrstuvwxyz")) (by rfl) g_LETTERS ⟨_, rfl⟩)) (by rfl))))) (dA_nil (μ := true)))))))), fun ds d l e => ?_⟩
  match ds, e with
  | [x], e =>
    cases e
    refine ⟨.rt (.bool (isName x)), ?_, rfl⟩
    by_cases hs : ∃ z, x = .str z
    · obtain ⟨z, rfl⟩ := hs
      refine (ev_guard (b := !(decide (1 ≤ (z.length : Int)) && decide ((z.length : Int) ≤ 8))) ?_ rfl).trans ?_
      · refine (ev_oOr (b := false) (ev_not (b := true) (ev_oB ((isi_str (.str z)).trans rfl)))).trans ?_
        refine ev_not (ev_oB ?_)
        by_cases h : 1 ≤ (z.length : Int)
        · simp [eChain, eC, eCall, aCons, aNil, eVar, lenD, leD, bB, startR, h]
        · simp [eChain, eC, eCall, aCons, aNil, eVar, lenD, leD, bB, startR, h]
      · cases h1 : (decide (1 ≤ (z.length : Int)) && decide ((z.length : Int) ≤ 8)) with
        | false => simp only [isName, h1]; rfl
        | true =>
          refine ev_ret ?_
          refine (ev_all (xs := z.cps.toList) (t := fun c => decide (c ∈ LET)) rfl ?_).trans (by simp only [isName, h1, Bool.true_and])
          refine (ev_lc (t := fun x => .bool (match x with | .str s => (match s.cps.toList with | [c] => decide (c ∈ LET) | _ => false) | _ => false)) (by show 1 < 2; decide) (strL z) fun x hx => ?_).trans ?_
          · obtain ⟨c, _, rfl⟩ := List.mem_map.mp hx
            rfl
          · unfold strL
            rw [List.map_map]
            rfl
    · have hn : isName x = false := by
        cases x <;> first | rfl | exact (hs ⟨_, rfl⟩).elim
      rw [hn]
      refine (ev_guard (b := true) ?_ rfl).trans rfl
      refine (ev_oOr (b := true) (ev_not (b := false) (ev_oB ((isi_str x).trans ?_)))).trans rfl
      cases x <;> first | rfl | exact (hs ⟨_, rfl⟩).elim
theorem ok_kindsF {f : Addr} {fd : FuncData} {t1 : Tok} (F : Fun K "kinds_fault" "kinds_fault" s_kinds_fault f fd) (m_enumerate : mg "enumerate" = none) (g_KINDS : mg "KINDS" = some (.int 4 t1)) (C_is_row : Cl P w K mg base 1 "is_row" ["thing", "fewest", "most"] (spD 3 sRow)) (C_is_name : Cl P w K mg base 1 "is_name" ["thing"] (spD 1 sName)) : FnOk P w K mg base CX0 2 f fd ["kinds"] (spD 1 sKindsF) := by
  refine okFn F sc_kinds_fault rfl fun cdv A outer s H E hr => ⟨_, (dSs_cons (dS_if (dT_not (dT_val (dE_cl C_is_row (hr.mono (by omega)) (by rfl) (dA_cons (dE_var (μ := true) (pv 0)) (dA_cons (dE_c (μ := true) pe_int) (dA_cons (dE_c (μ := true) (pe_glob (v := .int 4) (by rfl) g_KINDS ⟨_, rfl⟩)) (dA_nil (μ := true))))))))
    (dSs_one (dS_ret (ps_ret (dE_tup (dA_cons (dE_tup (dA_cons (dE_c (μ := true) pe_int) (dA_nil (μ := true)))) (dA_cons (dE_c (μ := true) pe_str) (dA_nil (μ := true))))))))
    dSs_nil)
  (dSs_cons (dS_for (K := K) (p := (.tp (.cons (.nm 1) (.cons (.nm 2) .nil)))) (ps_for PassesOwn.never rfl (dI_enum (by rfl) m_enumerate (dA_cons (dE_var (μ := true) (pv 0)) (dA_nil (μ := true)))) (pg_tup (by rfl) (pgs_cons (pg_name (i := 1) sc_kinds_fault.nd rfl (.inl rfl)) (pgs_cons (pg_name (i := 2) sc_kinds_fault.nd rfl (.inl rfl)) pgs_nil)))
    (dSs_one (dS_if (PW.pt (dW_or (dT_not (dT_val (dE_cl C_is_name (hr.mono (by omega)) (by rfl) (dA_cons (dE_var (μ := true) (pv 2)) (dA_nil (μ := true)))))) (dW_or1 (PW.pt (dW_and (dT_cmp o_gt (dE_var (μ := true) (pv 1)) (dE_c (μ := true) pe_int) (nomark _)) (dW_and1 (dT_cmp o_le (dE_var (μ := true) (pv 2)) (dE_ix (dE_var (μ := true) (pv 0)) (dE_op o_sub (dE_var (μ := true) (pv 1)) (dE_c (μ := true) pe_int))) (nomark _))))))))
    (dSs_one (dS_ret (ps_ret (dE_tup (dA_cons (dE_tup (dA_cons (dE_c (μ := true) pe_int) (dA_cons (dE_var (μ := true) (pv 1)) (dA_nil (μ := true))))) (dA_cons (dE_c (μ := true) pe_str) (dA_nil (μ := true))))))))
    dSs_nil))))
  (dSs_one (dS_ret (ps_ret (dE_c (μ := true) pe_non)))))), fun ds d l e => ?_⟩
  match ds, e with
  | [x], e =>
    cases e
    refine ⟨.rt (kindsF x), ?_, rfl⟩
    refine (ev_guard (b := !isRow 1 4 x) rfl rfl).trans ?_
    cases h0 : isRow 1 4 x with
    | false =>
      have : kindsF x = flt [1] "kinds" := by
        unfold kindsF
        split
        · rw [h0]; rfl
        · rfl
      rw [this]
      rfl
    | true =>
      obtain ⟨xs, rfl⟩ := isRow_tup h0
      have ep : kindsF (.tuple xs) = orN (firstG (gK xs) 0 xs) := by simp only [kindsF, h0]; rfl
      rw [ep, ← rt_orN]
      refine ev_enumG (fun ρ => ∃ a b, ρ = [some (.dat (.tuple xs)), a, b]) (.rt .none) rfl ⟨_, _, rfl⟩ (fun k x ρ ex gone i => ?_) (fun ρ i _ => by obtain ⟨a, b, rfl⟩ := i; rfl)
      obtain ⟨a, b, rfl⟩ := i
      refine ⟨_, rfl, ?_⟩
      have tst : oOr (oNot (oB (eCall (gN 1 sName) (aCons (eVar 2) aNil)))) (oAnd (oB (e2 gtD (eVar 1) (eC (.int 0)))) (oB (e2 leD (eVar 2) (e2 ixD (eVar 0) (e2 subD (eVar 1) (eC (.int 1))))))) [some (.dat (.tuple xs)), some (.dat (.int k)), some (.dat x)] = some (badK xs k x) := by
        unfold badK
        show (if (!isName x) = true then some true else _) = _
        cases hx : isName x with
        | false => rfl
        | true =>
          show (if decide ((k : Int) > 0) = true then _ else some false) = _
          by_cases hk : 0 < k
          · have hk' : decide ((k : Int) > 0) = true := decide_eq_true (by omega)
            rw [hk']
            have hk1 : k - 1 < xs.length := by
              have := (List.getElem?_eq_some_iff.mp ex).1
              omega
            obtain ⟨y, hy⟩ : ∃ y, xs[k - 1]? = some y := ⟨_, List.getElem?_eq_getElem hk1⟩
            have gy := gone (k - 1) y (by omega) hy
            unfold gK at gy
            have by1 : badK xs (k - 1) y = false := by
              cases z : badK xs (k - 1) y with
              | false => rfl
              | true => rw [z] at gy; cases gy
            have ny : isName y = true := by
              unfold badK at by1
              cases z : isName y with
              | true => rfl
              | false => rw [z] at by1; cases by1
            obtain ⟨zx, rfl⟩ := isName_str hx
            obtain ⟨zy, rfl⟩ := isName_str ny
            have ai : L2.atI xs ((k : Int) - 1) = some (.str zy) := by
              rw [show ((k : Int) - 1) = ((k - 1 : Nat) : Int) by omega]
              exact atI_nat hy
            show (((L2.atI xs ((k : Int) - 1)).bind fun b => leD (.str zx) b).bind bB) = _
            rw [ai, hy]
            simp [leD, bB, ltS, hk]
          · have hk' : decide ((k : Int) > 0) = false := decide_eq_false (by omega)
            rw [hk']
            simp [hk]
      unfold gK
      cases hb : badK xs k x with
      | true => exact .inr ⟨_, if_pos rfl, (ev_ifR (tst.trans (by rw [hb]))).trans rfl⟩
      | false => exact .inl ⟨if_neg (by decide), _, ⟨_, _, rfl⟩, (ev_ifR (tst.trans (by rw [hb]))).trans rfl⟩
end
end Dl
namespace Dl
open PySem PySem.Spec PyProof.Rows L2 Rt
def ris (l : List Int) : Bool := (l.zip (l.drop 1)).all fun p => decide (p.1 < p.2)
def sRis : List D → Option D
  | [.tuple ds] => (intsD ds).map fun ns => .bool (ris ns)
  | _ => none
def hoursOk (n : Int) : D → Bool
  | .tuple ds => isRow 0 n (.tuple ds) && (ds.all (isFrom 0 (n - 1)) && (match intsD ds with | some ns => ris ns | none => false))
  | _ => false
def sHours : List D → Option D
  | [.int n, d] => some (.bool (hoursOk n d))
  | _ => none
def keepsOk (c : D) : Bool := [S "oldest", S "youngest"].any fun z => PyData.eqv z c
def wayF (n : Int) (ks : List D) : D → D
  | .tuple [a, b, c, e, f] => if kindIn ks a = false then flt [0] "kind" else match partsF ks b with
    | .none => if keepsOk c = false then flt [2] "keeps" else if hoursOk n e = false then flt [3] "hours" else if isFrom 1 6 f = false then flt [4] "wait" else .none
    | d => below [.int 1] d
  | _ => flt [] "way"
def srcsF (n : Int) (ks : List D) : D → D
  | .tuple ds => if isRow 0 6 (.tuple ds) = false then flt [2] "sources" else firstF [.int 2] (srcF n ks) 0 ds
  | _ => flt [2] "sources"
def waysF (n : Int) (ks : List D) : D → D
  | .tuple ds => if isRow 0 8 (.tuple ds) = false then flt [3] "ways" else firstF [.int 3] (wayF n ks) 0 ds
  | _ => flt [3] "ways"
def orF (a b : D) : D := match a with
  | .none => b
  | d => d
def worldF : D → D
  | .tuple [.int n, .tuple ks, s, w] => if isFrom 1 6 (.int n) = false then flt [0] "round" else orF (kindsF (.tuple ks)) (orF (srcsF n ks s) (waysF n ks w))
  | .tuple [n, k, s, w] => if isFrom 1 6 n = false then flt [0] "round" else kindsF k
  | _ => flt [] "world"
def sWay : List D → Option D
  | [.int n, .tuple ks, d] => if (okD (.tuple ks) && okD d) = true then some (wayF n ks d) else none
  | _ => none
def sSrcs : List D → Option D
  | [.int n, .tuple ks, d] => if (okD (.tuple ks) && okD d) = true then some (srcsF n ks d) else none
  | _ => none
def sWays : List D → Option D
  | [.int n, .tuple ks, d] => if (okD (.tuple ks) && okD d) = true then some (waysF n ks d) else none
  | _ => none
def sWorldF : List D → Option D
  | [d] => if okD d = true then some (worldF d) else none
  | _ => none
theorem cut1 {α : Type} (xs : List α) : cutD xs (some 1) none = xs.drop 1 := by
  unfold cutD
  rw [HT.sIx_none, show (some (1 : Int)) = some ((1 : Nat) : Int) from rfl, HT.sIx_nat]
  cases xs with
  | nil => rfl
  | cons x r =>
    rw [show min 1 (x :: r).length = 1 by simp]
    exact List.take_of_length_le (by simp)
theorem ev_lcP {i j : Nat} {f : EF} {ρ : Rho} {t : D → D → D} (hi : i < ρ.length) (hj : j < ρ.length) : ∀ (xs : List (D × D)), (∀ x ∈ xs, f ((ρ.set i (some (.dat x.1))).set j (some (.dat x.2))) = some (t x.1 x.2)) → lcGo (.tp (.cons (.nm i) (.cons (.nm j) .nil))) oYes f ρ (xs.map fun x => .tuple [x.1, x.2]) = some (xs.map fun x => t x.1 x.2)
  | [], _ => rfl
  | x :: xs, h => by
    have e1 : bindP (.tp (.cons (.nm i) (.cons (.nm j) .nil))) (.tuple [x.1, x.2]) ρ = some ((ρ.set i (some (.dat x.1))).set j (some (.dat x.2))) := by
      show (bindP (.nm i) x.1 ρ).bind _ = _
      unfold bindP
      rw [if_pos hi]
      show (bindP (.nm j) x.2 _).bind _ = _
      unfold bindP
      rw [if_pos (by rw [List.length_set]; exact hj)]
      rfl
    show (bindP _ (.tuple [x.1, x.2]) ρ).bind _ = _
    rw [e1]
    show (f _).bind _ = _
    rw [h x (by simp)]
    show (lcGo _ _ _ _ _).map _ = _
    rw [ev_lcP hi hj xs fun y hy => h y (by simp [hy])]
    rfl
theorem zp_zip : ∀ (as bs : List D), zpGo as bs = (as.zip bs).map fun x => .tuple [x.1, x.2]
  | [], bs => by cases bs <;> rfl
  | a :: as, [] => rfl
  | a :: as, b :: bs => by
    show PyData.tuple [a, b] :: zpGo as bs = _
    rw [zp_zip as bs]
    rfl
theorem ints_eq : ∀ {ds : List D} {ns : List Int}, intsD ds = some ns → ds = ns.map .int
  | [], _, e => by cases e; rfl
  | .int i :: ds, _, e => by
    obtain ⟨r, er, rfl⟩ := some_map e
    rw [ints_eq er]
    rfl
  | .none :: _, _, e => nomatch e
  | .bool _ :: _, _, e => nomatch e
  | .str _ :: _, _, e => nomatch e
  | .list _ :: _, _, e => nomatch e
  | .tuple _ :: _, _, e => nomatch e
  | .dict _ :: _, _, e => nomatch e
theorem ints_of : ∀ {ds : List D} {lo hi : Int}, ds.all (isFrom lo hi) = true → ∃ ns, intsD ds = some ns
  | [], _, _, _ => ⟨[], rfl⟩
  | x :: ds, lo, hi, h => by
    rw [List.all_cons, Bool.and_eq_true_iff] at h
    obtain ⟨i, rfl⟩ := isFrom_int h.1
    obtain ⟨ns, e⟩ := ints_of h.2
    exact ⟨i :: ns, by show (intsD ds).map _ = _; rw [e]; rfl⟩
theorem srcF_N (n : Int) (ks : List D) (d : D) : FltN 1 (srcF n ks d) := by
  unfold srcF
  split
  · repeat' split
    all_goals first | exact fltN (by decide) | exact .inl rfl
  · exact fltN (by decide)
theorem wayF_N (n : Int) (ks : List D) (d : D) : FltN 3 (wayF n ks d) := by
  unfold wayF
  split
  · split
    · exact fltN (by decide)
    · rename_i b _ _ _ _
      rcases partsF_N ks b with e | ⟨i, w, e, l⟩
      · rw [e]
        repeat' split
        all_goals first | exact fltN (by decide) | exact .inl rfl | contradiction
      · rw [e]
        exact .inr ⟨_, _, rfl, by simp; omega⟩
  · exact fltN (by decide)
section
variable {P : Program} {w : World} {K : PySem.W.Frag} {mg : Str → Option Value} {base : Heap}
theorem ok_ris {f : Addr} {fd : FuncData} (F : Fun K "is_rising" "is_rising" s_is_rising f fd) (m_all : mg "all" = none) (m_zip : mg "zip" = none) : FnOk P w K mg base CX0 1 f fd ["row"] (spD 1 sRis) := by
  refine okFn F sc_is_rising rfl fun cdv A outer s H E hr => ⟨_, (dSs_one (dS_ret (ps_ret (dE_callB (c_all rfl) (by rfl) m_all (by decide +kernel) (dA_cons (dE_lc (K := K) (p := (.tp (.cons (.nm 1) (.cons (.nm 2) .nil)))) (pe_lc (own := [("ahead", 1), ("behind", 2)]) (g := gP K (.tp (.cons (.nm 1) (.cons (.nm 2) .nil)))) rfl sc_is_rising.nd (dI_zip (by rfl) m_zip (dA_cons (dE_var (μ := true) (pv 0)) (dA_cons (dE_sl (dE_var (μ := true) (pv 0)) (dO_some (dE_c (μ := true) pe_int)) dO_none) (dA_nil (μ := true))))) (blkOk_by (own := [("ahead", 1), ("behind", 2)]) (N := ["row", "ahead", "behind"]) (sc := defScope s_is_rising) (by decide +kernel)) (fun _ _ _ _ _ => (pg_tup (by rfl) (pgs_cons (pg_name (i := 1) sc_is_rising.nd rfl (.inl rfl)) (pgs_cons (pg_name (i := 2) sc_is_rising.nd rfl (.inl rfl)) pgs_nil)))) (fun _ _ _ _ _ => dTs_nil) (fun _ _ _ _ _ => (dE_cmp o_lt (dE_var (μ := true) (pv 1)) (dE_var (μ := true) (pv 2)) (nomark _))))) (dA_nil (μ := true))))))), fun ds d l e => ?_⟩
  match ds, e with
  | [.tuple xs], e =>
    obtain ⟨ns, en, rfl⟩ := some_map e
    have ex := ints_eq en
    refine ⟨.rt (.bool (ris ns)), ev_ret (ev_all (xs := ns.zip (ns.drop 1)) (t := fun p => decide (p.1 < p.2)) (items := zpGo xs (xs.drop 1)) ?_ ?_), rfl⟩
    · show some (zpGo xs (cutD xs (some 1) none)) = _
      rw [cut1]
    · rw [zp_zip, ex, ← List.map_drop, List.zip_map, List.map_map]
      have := ev_lcP (i := 1) (j := 2) (f := e2 ltD (eVar 1) (eVar 2)) (ρ := [some (.dat (.tuple (ns.map .int))), none, none]) (t := fun a b => .bool (match a, b with | .int i, .int j => decide (i < j) | _, _ => false)) (by show 1 < 3; decide) (by show 2 < 3; decide) ((ns.zip (ns.drop 1)).map fun p => (PyData.int p.1, PyData.int p.2)) (fun x hx => by
        obtain ⟨p, _, rfl⟩ := List.mem_map.mp hx
        rfl)
      rw [List.map_map, List.map_map] at this
      exact this
theorem ok_hours {f : Addr} {fd : FuncData} (F : Fun K "is_hours" "is_hours" s_is_hours f fd) (m_all : mg "all" = none) (C_is_row : Cl P w K mg base 1 "is_row" ["thing", "fewest", "most"] (spD 3 sRow)) (C_is_number_from : Cl P w K mg base 2 "is_number_from" ["thing", "low", "high"] (spD 3 sFrom)) (C_is_rising : Cl P w K mg base 1 "is_rising" ["row"] (spD 1 sRis)) : FnOk P w K mg base CX0 3 f fd ["span", "hours"] (spD 2 sHours) := by
  refine okFn F sc_is_hours rfl fun cdv A outer s H E hr => ⟨_, (dSs_cons (dS_if (dT_not (dT_val (dE_cl C_is_row (hr.mono (by omega)) (by rfl) (dA_cons (dE_var (μ := true) (pv 1)) (dA_cons (dE_c (μ := true) pe_int) (dA_cons (dE_var (μ := true) (pv 0)) (dA_nil (μ := true))))))))
    (dSs_one (dS_ret (ps_ret (dE_c (μ := true) pe_bl))))
    dSs_nil)
  (dSs_one (dS_ret (ps_ret (dE_and (dE_callB (c_all rfl) (by rfl) m_all (by decide +kernel) (dA_cons (dE_lc (K := K) (p := (.nm 2)) (pe_lc (own := [("hour", 2)]) (g := gP K (.nm 2)) rfl sc_is_hours.nd (dI_seq (dE_var (μ := true) (pv 1))) (blkOk_by (own := [("hour", 2)]) (N := ["span", "hours", "hour"]) (sc := defScope s_is_hours) (by decide +kernel)) (fun _ _ _ _ _ => (pg_name (i := 2) sc_is_hours.nd rfl (.inl rfl))) (fun _ _ _ _ _ => dTs_nil) (fun _ _ _ _ _ => (dE_cl C_is_number_from (hr.mono (by omega)) (by rfl) (dA_cons (dE_var (μ := true) (pv 2)) (dA_cons (dE_c (μ := true) pe_int) (dA_cons (dE_op o_sub (dE_var (μ := true) (pv 0)) (dE_c (μ := true) pe_int)) (dA_nil (μ := true))))))))) (dA_nil (μ := true)))) (dE_one (dE_cl C_is_rising (hr.mono (by omega)) (by rfl) (dA_cons (dE_var (μ := true) (pv 1)) (dA_nil (μ := true)))))))))), fun ds d l e => ?_⟩
  match ds, e with
  | [.int n, x], e =>
    cases e
    refine ⟨.rt (.bool (hoursOk n x)), ?_, rfl⟩
    refine (ev_guard (b := !isRow 0 n x) rfl rfl).trans ?_
    cases h0 : isRow 0 n x with
    | false =>
      have : hoursOk n x = false := by
        unfold hoursOk
        split
        · rw [h0]; rfl
        · rfl
      rw [this]
      rfl
    | true =>
      obtain ⟨xs, rfl⟩ := isRow_tup h0
      refine ev_ret (ev_and (b := xs.all (isFrom 0 (n - 1))) (ev_all (xs := xs) (t := isFrom 0 (n - 1)) rfl (ev_lc (t := fun x => .bool (isFrom 0 (n - 1) x)) (by show 2 < 3; decide) xs fun x _ => rfl)) (fun ha => ?_) (fun ha => ?_))
      · obtain ⟨ns, en⟩ := ints_of ha
        refine ev_call rfl rfl ?_
        show (intsD xs).map _ = _
        simp only [hoursOk, h0, ha, en]
        rfl
      · simp only [hoursOk, h0, ha]
        rfl
theorem ok_wayF {f : Addr} {fd : FuncData} {t1 : Tok} (F : Fun K "way_fault" "way_fault" s_way_fault f fd) (g_WAIT : mg "WAIT" = some (.int 6 t1))
    (C_is_row : Cl P w K mg base 1 "is_row" ["thing", "fewest", "most"] (spD 3 sRow)) (C_is_number_from : Cl P w K mg base 2 "is_number_from" ["thing", "low", "high"] (spD 3 sFrom)) (C_parts_fault : Cl P w K mg base 4 "parts_fault" ["kinds", "parts"] (spD 2 sPartsF)) (C_fault_below : Cl P w K mg base 1 "fault_below" ["path", "fault"] (spD 2 sBelow)) (C_is_hours : Cl P w K mg base 3 "is_hours" ["span", "hours"] (spD 2 sHours)) : FnOk P w K mg base CX0 5 f fd ["span", "kinds", "way"] (spD 3 sWay) := by
  refine okFn F sc_way_fault rfl fun cdv A outer s H E hr => ⟨_, (dSs_cons (dS_if (dT_not (dT_val (dE_cl C_is_row (hr.mono (by omega)) (by rfl) (dA_cons (dE_var (μ := true) (pv 2)) (dA_cons (dE_c (μ := true) pe_int) (dA_cons (dE_c (μ := true) pe_int) (dA_nil (μ := true))))))))
    (dSs_one (dS_ret (ps_ret (dE_tup (dA_cons (dE_tup (dA_nil (μ := true))) (dA_cons (dE_c (μ := true) pe_str) (dA_nil (μ := true))))))))
    dSs_nil)
  (dSs_cons (dS_asg (K := K) (p := (.tp (.cons (.nm 3) (.cons (.nm 4) (.cons (.nm 5) (.cons (.nm 6) (.cons (.nm 7) .nil))))))) (ps_asg (dE_var (μ := true) (pv 2)) (pg_tup (by rfl) (pgs_cons (pg_name (i := 3) sc_way_fault.nd rfl (.inl rfl)) (pgs_cons (pg_name (i := 4) sc_way_fault.nd rfl (.inl rfl)) (pgs_cons (pg_name (i := 5) sc_way_fault.nd rfl (.inl rfl)) (pgs_cons (pg_name (i := 6) sc_way_fault.nd rfl (.inl rfl)) (pgs_cons (pg_name (i := 7) sc_way_fault.nd rfl (.inl rfl)) pgs_nil))))))))
  (dSs_cons (dS_if (dT_cmp (o_nin (u65 hr)) (dE_var (μ := true) (pv 3)) (dE_var (μ := true) (pv 1)) (by rfl))
    (dSs_one (dS_ret (ps_ret (dE_tup (dA_cons (dE_tup (dA_cons (dE_c (μ := true) pe_int) (dA_nil (μ := true)))) (dA_cons (dE_c (μ := true) pe_str) (dA_nil (μ := true))))))))
    dSs_nil)
  (dSs_cons (dS_asg (K := K) (p := .nm 8) (ps_set (i := 8) sc_way_fault.nd rfl (.inl rfl) (dE_cl C_parts_fault (hr.mono (by omega)) (by rfl) (dA_cons (dE_var (μ := true) (pv 1)) (dA_cons (dE_var (μ := true) (pv 4)) (dA_nil (μ := true)))))))
  (dSs_cons (dS_if (dT_cmp o_isnot (dE_var (μ := true) (pv 8)) (dE_c (μ := true) pe_non) (nomark _))
    (dSs_one (dS_ret (ps_ret (dE_cl C_fault_below (hr.mono (by omega)) (by rfl) (dA_cons (dE_tup (dA_cons (dE_c (μ := true) pe_int) (dA_nil (μ := true)))) (dA_cons (dE_var (μ := true) (pv 8)) (dA_nil (μ := true))))))))
    dSs_nil)
  (dSs_cons (dS_if (dT_cmp (o_nin (u65 hr)) (dE_var (μ := true) (pv 5)) (dE_tup (dA_cons (dE_c (μ := true) pe_str) (dA_cons (dE_c (μ := true) pe_str) (dA_nil (μ := true))))) (by rfl))
    (dSs_one (dS_ret (ps_ret (dE_tup (dA_cons (dE_tup (dA_cons (dE_c (μ := true) pe_int) (dA_nil (μ := true)))) (dA_cons (dE_c (μ := true) pe_str) (dA_nil (μ := true))))))))
    dSs_nil)
  (dSs_cons (dS_if (dT_not (dT_val (dE_cl C_is_hours (hr.mono (by omega)) (by rfl) (dA_cons (dE_var (μ := true) (pv 0)) (dA_cons (dE_var (μ := true) (pv 6)) (dA_nil (μ := true)))))))
    (dSs_one (dS_ret (ps_ret (dE_tup (dA_cons (dE_tup (dA_cons (dE_c (μ := true) pe_int) (dA_nil (μ := true)))) (dA_cons (dE_c (μ := true) pe_str) (dA_nil (μ := true))))))))
    dSs_nil)
  (dSs_cons (dS_if (dT_not (dT_val (dE_cl C_is_number_from (hr.mono (by omega)) (by rfl) (dA_cons (dE_var (μ := true) (pv 7)) (dA_cons (dE_c (μ := true) pe_int) (dA_cons (dE_c (μ := true) (pe_glob (v := .int 6) (by rfl) g_WAIT ⟨_, rfl⟩)) (dA_nil (μ := true))))))))
    (dSs_one (dS_ret (ps_ret (dE_tup (dA_cons (dE_tup (dA_cons (dE_c (μ := true) pe_int) (dA_nil (μ := true)))) (dA_cons (dE_c (μ := true) pe_str) (dA_nil (μ := true))))))))
    dSs_nil)
  (dSs_one (dS_ret (ps_ret (dE_c (μ := true) pe_non)))))))))))), fun ds d l e => ?_⟩
  match ds, e with
  | [.int n, .tuple ks, x], e =>
    obtain ⟨ok, rfl⟩ := iteS e
    have ok := Bool.and_eq_true_iff.mp ok
    refine ⟨.rt (wayF n ks x), ?_, rfl⟩
    refine (ev_guard (b := !isRow 5 5 x) rfl rfl).trans ?_
    cases h0 : isRow 5 5 x with
    | false =>
      have : wayF n ks x = flt [] "way" := by
        unfold wayF
        split
        · cases h0
        · rfl
      rw [this]
      rfl
    | true =>
      obtain ⟨a, b, c, e', f', rfl⟩ := isRow_five h0
      have oa := okD.tup ok.2 a (by simp)
      have ob := okD.tup ok.2 b (by simp)
      have oc := okD.tup ok.2 c (by simp)
      refine (ev_asg rfl rfl).trans ?_
      refine (ev_guard (b := !kindIn ks a) (by show ((ninD a (.tuple ks)).bind bB) = _; rw [nin_tup oa ok.1]; rfl) rfl).trans ?_
      cases h1 : kindIn ks a with
      | false => simp only [wayF, h1]; rfl
      | true =>
        have ef : sPartsF [.tuple ks, b] = some (partsF ks b) := if_pos (by rw [ok.1, ob]; rfl)
        refine (ev_asg (d := partsF ks b) (ev_call rfl rfl ef) rfl).trans ?_
        rcases partsF_N ks b with ep | ⟨i, w', ep, lp⟩
        · rw [ep]
          refine (ev_if (b := false) rfl).trans ?_
          refine (show _ = _ from ev_nil).trans ?_
          refine (ev_guard (b := !keepsOk c) (by show ((ninD c (.tuple [S "oldest", S "youngest"])).bind bB) = _; rw [nin_tup oc (by decide +kernel)]; rfl) rfl).trans ?_
          cases h2 : keepsOk c with
          | false => simp only [wayF, h1, ep, h2]; rfl
          | true =>
            refine (ev_guard (b := !hoursOk n e') rfl rfl).trans ?_
            cases h3 : hoursOk n e' with
            | false => simp only [wayF, h1, ep, h2, h3]; rfl
            | true =>
              refine (ev_guard (b := !isFrom 1 6 f') rfl rfl).trans ?_
              cases h4 : isFrom 1 6 f' <;> (simp only [wayF, h1, ep, h2, h3, h4]; rfl)
        · rw [ep]
          refine (ev_if (b := true) rfl).trans ?_
          have eb : sBelow [.tuple [.int 1], .tuple [.tuple i, w']] = some (below [.int 1] (.tuple [.tuple i, w'])) := if_pos (show 1 + i.length ≤ sizeLine from sz (by omega))
          refine (ev_retS (ev_call rfl rfl eb)).trans ?_
          simp only [wayF, h1, ep]
          rfl
theorem ok_srcs {f : Addr} {fd : FuncData} {t1 : Tok} (F : Fun K "sources_fault" "sources_fault" s_sources_fault f fd) (g_SOURCES : mg "SOURCES" = some (.int 6 t1)) (m_enumerate : mg "enumerate" = none)
    (C_is_row : Cl P w K mg base 1 "is_row" ["thing", "fewest", "most"] (spD 3 sRow)) (C_source_fault : Cl P w K mg base 3 "source_fault" ["span", "kinds", "source"] (spD 3 sSrc)) (C_fault_below : Cl P w K mg base 1 "fault_below" ["path", "fault"] (spD 2 sBelow)) : FnOk P w K mg base CX0 4 f fd ["span", "kinds", "sources"] (spD 3 sSrcs) := by
  refine okFn F sc_sources_fault rfl fun cdv A outer s H E hr => ⟨_, (dSs_cons (dS_if (dT_not (dT_val (dE_cl C_is_row (hr.mono (by omega)) (by rfl) (dA_cons (dE_var (μ := true) (pv 2)) (dA_cons (dE_c (μ := true) pe_int) (dA_cons (dE_c (μ := true) (pe_glob (v := .int 6) (by rfl) g_SOURCES ⟨_, rfl⟩)) (dA_nil (μ := true))))))))
    (dSs_one (dS_ret (ps_ret (dE_tup (dA_cons (dE_tup (dA_cons (dE_c (μ := true) pe_int) (dA_nil (μ := true)))) (dA_cons (dE_c (μ := true) pe_str) (dA_nil (μ := true))))))))
    dSs_nil)
  (dSs_cons (dS_for (K := K) (p := (.tp (.cons (.nm 3) (.cons (.nm 4) .nil)))) (ps_for PassesOwn.never rfl (dI_enum (by rfl) m_enumerate (dA_cons (dE_var (μ := true) (pv 2)) (dA_nil (μ := true)))) (pg_tup (by rfl) (pgs_cons (pg_name (i := 3) sc_sources_fault.nd rfl (.inl rfl)) (pgs_cons (pg_name (i := 4) sc_sources_fault.nd rfl (.inl rfl)) pgs_nil)))
    (dSs_cons (dS_asg (K := K) (p := .nm 5) (ps_set (i := 5) sc_sources_fault.nd rfl (.inl rfl) (dE_cl C_source_fault (hr.mono (by omega)) (by rfl) (dA_cons (dE_var (μ := true) (pv 0)) (dA_cons (dE_var (μ := true) (pv 1)) (dA_cons (dE_var (μ := true) (pv 4)) (dA_nil (μ := true))))))))
  (dSs_one (dS_if (dT_cmp o_isnot (dE_var (μ := true) (pv 5)) (dE_c (μ := true) pe_non) (nomark _))
    (dSs_one (dS_ret (ps_ret (dE_cl C_fault_below (hr.mono (by omega)) (by rfl) (dA_cons (dE_tup (dA_cons (dE_c (μ := true) pe_int) (dA_cons (dE_var (μ := true) (pv 3)) (dA_nil (μ := true))))) (dA_cons (dE_var (μ := true) (pv 5)) (dA_nil (μ := true))))))))
    dSs_nil)))))
  (dSs_one (dS_ret (ps_ret (dE_c (μ := true) pe_non)))))), fun ds d l e => ?_⟩
  match ds, e with
  | [.int n, .tuple ks, x], e =>
    obtain ⟨ok, rfl⟩ := iteS e
    have ok := Bool.and_eq_true_iff.mp ok
    refine ⟨.rt (srcsF n ks x), ?_, rfl⟩
    refine (ev_guard (b := !isRow 0 6 x) rfl rfl).trans ?_
    cases h0 : isRow 0 6 x with
    | false =>
      have : srcsF n ks x = flt [2] "sources" := by
        unfold srcsF
        split
        · rw [h0]; rfl
        · rfl
      rw [this]
      rfl
    | true =>
      obtain ⟨xs, rfl⟩ := isRow_tup h0
      have ep : srcsF n ks (.tuple xs) = firstF [.int 2] (srcF n ks) 0 xs := by simp only [srcsF, h0]; rfl
      rw [ep]
      refine ev_firstS (f := srcF n ks) (pre := [.int 2]) (fun ρ => ∃ a b c, ρ = [some (.dat (.int n)), some (.dat (.tuple ks)), some (.dat (.tuple xs)), a, b, c]) rfl ⟨_, _, _, rfl⟩ (fun k x ρ m i => ?_) (fun ρ i => by obtain ⟨a, b, c, rfl⟩ := i; rfl)
      obtain ⟨a, b, c, rfl⟩ := i
      refine ⟨_, rfl, ?_⟩
      have ox := okD.tup ok.2 x m
      have ef : sSrc [.int n, .tuple ks, x] = some (srcF n ks x) := if_pos (by rw [ok.1, ox]; rfl)
      by_cases hn : srcF n ks x = .none
      · exact .inl ⟨hn, _, ⟨_, _, _, rfl⟩, (ev_asg (d := .none) (ev_call rfl rfl (ef.trans (by rw [hn]))) rfl).trans rfl⟩
      · refine .inr ⟨hn, ?_⟩
        rcases srcF_N n ks x with e | ⟨i, w, e, l⟩
        · exact (hn e).elim
        · refine (ev_asg (d := .tuple [.tuple i, w]) (ev_call rfl rfl (ef.trans (by rw [e]))) rfl).trans ?_
          refine (ev_ifR (b := true) rfl).trans (ev_ret (ev_call rfl rfl ?_))
          rw [e]
          exact if_pos (show 2 + i.length ≤ sizeLine from sz (by omega))
theorem ok_ways {f : Addr} {fd : FuncData} {t1 : Tok} (F : Fun K "ways_fault" "ways_fault" s_ways_fault f fd) (g_WAYS : mg "WAYS" = some (.int 8 t1)) (m_enumerate : mg "enumerate" = none)
    (C_is_row : Cl P w K mg base 1 "is_row" ["thing", "fewest", "most"] (spD 3 sRow)) (C_way_fault : Cl P w K mg base 5 "way_fault" ["span", "kinds", "way"] (spD 3 sWay)) (C_fault_below : Cl P w K mg base 1 "fault_below" ["path", "fault"] (spD 2 sBelow)) : FnOk P w K mg base CX0 6 f fd ["span", "kinds", "ways"] (spD 3 sWays) := by
  refine okFn F sc_ways_fault rfl fun cdv A outer s H E hr => ⟨_, (dSs_cons (dS_if (dT_not (dT_val (dE_cl C_is_row (hr.mono (by omega)) (by rfl) (dA_cons (dE_var (μ := true) (pv 2)) (dA_cons (dE_c (μ := true) pe_int) (dA_cons (dE_c (μ := true) (pe_glob (v := .int 8) (by rfl) g_WAYS ⟨_, rfl⟩)) (dA_nil (μ := true))))))))
    (dSs_one (dS_ret (ps_ret (dE_tup (dA_cons (dE_tup (dA_cons (dE_c (μ := true) pe_int) (dA_nil (μ := true)))) (dA_cons (dE_c (μ := true) pe_str) (dA_nil (μ := true))))))))
    dSs_nil)
  (dSs_cons (dS_for (K := K) (p := (.tp (.cons (.nm 3) (.cons (.nm 4) .nil)))) (ps_for PassesOwn.never rfl (dI_enum (by rfl) m_enumerate (dA_cons (dE_var (μ := true) (pv 2)) (dA_nil (μ := true)))) (pg_tup (by rfl) (pgs_cons (pg_name (i := 3) sc_ways_fault.nd rfl (.inl rfl)) (pgs_cons (pg_name (i := 4) sc_ways_fault.nd rfl (.inl rfl)) pgs_nil)))
    (dSs_cons (dS_asg (K := K) (p := .nm 5) (ps_set (i := 5) sc_ways_fault.nd rfl (.inl rfl) (dE_cl C_way_fault (hr.mono (by omega)) (by rfl) (dA_cons (dE_var (μ := true) (pv 0)) (dA_cons (dE_var (μ := true) (pv 1)) (dA_cons (dE_var (μ := true) (pv 4)) (dA_nil (μ := true))))))))
  (dSs_one (dS_if (dT_cmp o_isnot (dE_var (μ := true) (pv 5)) (dE_c (μ := true) pe_non) (nomark _))
    (dSs_one (dS_ret (ps_ret (dE_cl C_fault_below (hr.mono (by omega)) (by rfl) (dA_cons (dE_tup (dA_cons (dE_c (μ := true) pe_int) (dA_cons (dE_var (μ := true) (pv 3)) (dA_nil (μ := true))))) (dA_cons (dE_var (μ := true) (pv 5)) (dA_nil (μ := true))))))))
    dSs_nil)))))
  (dSs_one (dS_ret (ps_ret (dE_c (μ := true) pe_non)))))), fun ds d l e => ?_⟩
  match ds, e with
  | [.int n, .tuple ks, x], e =>
    obtain ⟨ok, rfl⟩ := iteS e
    have ok := Bool.and_eq_true_iff.mp ok
    refine ⟨.rt (waysF n ks x), ?_, rfl⟩
    refine (ev_guard (b := !isRow 0 8 x) rfl rfl).trans ?_
    cases h0 : isRow 0 8 x with
    | false =>
      have : waysF n ks x = flt [3] "ways" := by
        unfold waysF
        split
        · rw [h0]; rfl
        · rfl
      rw [this]
      rfl
    | true =>
      obtain ⟨xs, rfl⟩ := isRow_tup h0
      have ep : waysF n ks (.tuple xs) = firstF [.int 3] (wayF n ks) 0 xs := by simp only [waysF, h0]; rfl
      rw [ep]
      refine ev_firstS (f := wayF n ks) (pre := [.int 3]) (fun ρ => ∃ a b c, ρ = [some (.dat (.int n)), some (.dat (.tuple ks)), some (.dat (.tuple xs)), a, b, c]) rfl ⟨_, _, _, rfl⟩ (fun k x ρ m i => ?_) (fun ρ i => by obtain ⟨a, b, c, rfl⟩ := i; rfl)
      obtain ⟨a, b, c, rfl⟩ := i
      refine ⟨_, rfl, ?_⟩
      have ox := okD.tup ok.2 x m
      have ef : sWay [.int n, .tuple ks, x] = some (wayF n ks x) := if_pos (by rw [ok.1, ox]; rfl)
      by_cases hn : wayF n ks x = .none
      · exact .inl ⟨hn, _, ⟨_, _, _, rfl⟩, (ev_asg (d := .none) (ev_call rfl rfl (ef.trans (by rw [hn]))) rfl).trans rfl⟩
      · refine .inr ⟨hn, ?_⟩
        rcases wayF_N n ks x with e | ⟨i, w, e, l⟩
        · exact (hn e).elim
        · refine (ev_asg (d := .tuple [.tuple i, w]) (ev_call rfl rfl (ef.trans (by rw [e]))) rfl).trans ?_
          refine (ev_ifR (b := true) rfl).trans (ev_ret (ev_call rfl rfl ?_))
          rw [e]
          exact if_pos (show 2 + i.length ≤ sizeLine from sz (by omega))
theorem orT_F {f g : EF} {ρ : Rho} {a b : D} {n : Nat} (hf : f ρ = some a) (ha : FltN n a) (hg : a = .none → g ρ = some b) : eOrT f g ρ = some (orF a b) := by
  unfold eOrT
  rw [hf]
  rcases ha with rfl | ⟨i, w, rfl, _⟩
  · exact hg rfl
  · rfl
theorem kindsF_N (d : D) : FltN 2 (kindsF d) := by
  unfold kindsF
  split
  · split
    · exact fltN (by decide)
    · rename_i ds _
      have : ∀ (xs : List D) (k : Nat), FltN 2 (orN (firstG (gK ds) k xs)) := by
        intro xs
        induction xs with
        | nil => intro k; exact .inl rfl
        | cons x xs ih =>
          intro k
          cases e : gK ds k x with
          | none => rw [firstG_no e]; exact ih _
          | some d =>
            rw [firstG_yes e]
            unfold gK at e
            split at e
            · cases e; exact fltN (by simp)
            · cases e
      exact this _ _
  · exact fltN (by decide)
theorem srcsF_N (n : Int) (ks : List D) (d : D) : FltN 10 (srcsF n ks d) := by
  unfold srcsF
  split
  · split
    · exact fltN (by decide)
    · exact firstF_N (n := 1) (srcF_N n ks) (by simp) _ _
  · exact fltN (by decide)
theorem isRow_four {d : D} (h : isRow 4 4 d = true) : ∃ a b c e, d = .tuple [a, b, c, e] := by
  cases d <;> try (cases h; done)
  rename_i ds
  have : ds.length = 4 := by
    simp [isRow] at h
    omega
  match ds, this with
  | [a, b, c, e], _ => exact ⟨a, b, c, e, rfl⟩
theorem kindsF_tup {d : D} (h : kindsF d = .none) : ∃ ks, d = .tuple ks := by
  cases d <;> first | exact ⟨_, rfl⟩ | (cases h; done)
theorem ok_worldF {f : Addr} {fd : FuncData} {t1 : Tok} (F : Fun K "worldfault" "worldfault" s_worldfault f fd) (g_ROUND : mg "ROUND" = some (.int 6 t1))
    (C_is_row : Cl P w K mg base 1 "is_row" ["thing", "fewest", "most"] (spD 3 sRow)) (C_is_number_from : Cl P w K mg base 2 "is_number_from" ["thing", "low", "high"] (spD 3 sFrom)) (C_kinds_fault : Cl P w K mg base 2 "kinds_fault" ["kinds"] (spD 1 sKindsF)) (C_sources_fault : Cl P w K mg base 4 "sources_fault" ["span", "kinds", "sources"] (spD 3 sSrcs)) (C_ways_fault : Cl P w K mg base 6 "ways_fault" ["span", "kinds", "ways"] (spD 3 sWays)) : FnOk P w K mg base CX0 7 f fd ["thing"] (spD 1 sWorldF) := by
  refine okFn F sc_worldfault rfl fun cdv A outer s H E hr => ⟨_, (dSs_cons (dS_if (dT_not (dT_val (dE_cl C_is_row (hr.mono (by omega)) (by rfl) (dA_cons (dE_var (μ := true) (pv 0)) (dA_cons (dE_c (μ := true) pe_int) (dA_cons (dE_c (μ := true) pe_int) (dA_nil (μ := true))))))))
    (dSs_one (dS_ret (ps_ret (dE_tup (dA_cons (dE_tup (dA_nil (μ := true))) (dA_cons (dE_c (μ := true) pe_str) (dA_nil (μ := true))))))))
    dSs_nil)
  (dSs_cons (dS_asg (K := K) (p := (.tp (.cons (.nm 1) (.cons (.nm 2) (.cons (.nm 3) (.cons (.nm 4) .nil)))))) (ps_asg (dE_var (μ := true) (pv 0)) (pg_tup (by rfl) (pgs_cons (pg_name (i := 1) sc_worldfault.nd rfl (.inl rfl)) (pgs_cons (pg_name (i := 2) sc_worldfault.nd rfl (.inl rfl)) (pgs_cons (pg_name (i := 3) sc_worldfault.nd rfl (.inl rfl)) (pgs_cons (pg_name (i := 4) sc_worldfault.nd rfl (.inl rfl)) pgs_nil)))))))
  (dSs_cons (dS_if (dT_not (dT_val (dE_cl C_is_number_from (hr.mono (by omega)) (by rfl) (dA_cons (dE_var (μ := true) (pv 1)) (dA_cons (dE_c (μ := true) pe_int) (dA_cons (dE_c (μ := true) (pe_glob (v := .int 6) (by rfl) g_ROUND ⟨_, rfl⟩)) (dA_nil (μ := true))))))))
    (dSs_one (dS_ret (ps_ret (dE_tup (dA_cons (dE_tup (dA_cons (dE_c (μ := true) pe_int) (dA_nil (μ := true)))) (dA_cons (dE_c (μ := true) pe_str) (dA_nil (μ := true))))))))
    dSs_nil)
  (dSs_one (dS_ret (ps_ret (dE_orT (dE_cl C_kinds_fault (hr.mono (by omega)) (by rfl) (dA_cons (dE_var (μ := true) (pv 2)) (dA_nil (μ := true)))) (dE_orT (dE_cl C_sources_fault (hr.mono (by omega)) (by rfl) (dA_cons (dE_var (μ := true) (pv 1)) (dA_cons (dE_var (μ := true) (pv 2)) (dA_cons (dE_var (μ := true) (pv 3)) (dA_nil (μ := true)))))) (dE_one (dE_cl C_ways_fault (hr.mono (by omega)) (by rfl) (dA_cons (dE_var (μ := true) (pv 1)) (dA_cons (dE_var (μ := true) (pv 2)) (dA_cons (dE_var (μ := true) (pv 4)) (dA_nil (μ := true))))))))))))))), fun ds d l e => ?_⟩
  match ds, e with
  | [x], e =>
    obtain ⟨ok, rfl⟩ := iteS e
    refine ⟨.rt (worldF x), ?_, rfl⟩
    refine (ev_guard (b := !isRow 4 4 x) rfl rfl).trans ?_
    cases h0 : isRow 4 4 x with
    | false =>
      have : worldF x = flt [] "world" := by
        unfold worldF
        split
        · cases h0
        · cases h0
        · rfl
      rw [this]
      rfl
    | true =>
      obtain ⟨a, b, c, e', rfl⟩ := isRow_four h0
      have ob := okD.tup ok b (by simp)
      have oc := okD.tup ok c (by simp)
      have oe := okD.tup ok e' (by simp)
      refine (ev_asg rfl rfl).trans ?_
      refine (ev_guard (b := !isFrom 1 6 a) rfl rfl).trans ?_
      cases h1 : isFrom 1 6 a with
      | false =>
        have : worldF (.tuple [a, b, c, e']) = flt [0] "round" := by
          unfold worldF
          split
          · rename_i e1; cases e1; rw [h1]; rfl
          · rename_i e1; cases e1; rw [h1]; rfl
          · rename_i e1; exact (e1 _ _ _ _ rfl).elim
        rw [this]
        rfl
      | true =>
        obtain ⟨n, rfl⟩ := isFrom_int h1
        by_cases hb : ∃ ks, b = .tuple ks
        · obtain ⟨ks, rfl⟩ := hb
          have ew : worldF (.tuple [.int n, .tuple ks, c, e']) = orF (kindsF (.tuple ks)) (orF (srcsF n ks c) (waysF n ks e')) := by simp only [worldF, h1]; rfl
          rw [ew]
          have es : sSrcs [.int n, .tuple ks, c] = some (srcsF n ks c) := if_pos (by rw [ob, oc]; rfl)
          have ey : sWays [.int n, .tuple ks, e'] = some (waysF n ks e') := if_pos (by rw [ob, oe]; rfl)
          exact ev_ret (orT_F rfl (kindsF_N _) fun _ => orT_F (ev_call rfl rfl es) (srcsF_N n ks c) fun _ => ev_call rfl rfl ey)
        · have hk : kindsF b ≠ .none := fun z => hb (kindsF_tup z)
          have ew : worldF (.tuple [.int n, b, c, e']) = kindsF b := by
            cases b <;> first | exact (hb ⟨_, rfl⟩).elim | (simp only [worldF, h1]; rfl)
          rw [ew]
          refine ev_ret ((orT_F (b := .none) (a := kindsF b) rfl (kindsF_N _) fun z => (hk z).elim).trans ?_)
          unfold orF
          split
          · rename_i z; exact (hk z).elim
          · rfl
end
end Dl
namespace Dl
open PySem PySem.Spec PyProof.Rows L2 Rt
def isStr : D → Bool
  | .str _ => true
  | _ => false
def sKindIn : List D → Option D
  | [.tuple ks, d] => if (okD (.tuple ks) && okD d) = true then some (.bool (isStr d && kindIn ks d)) else none
  | _ => none
def nms (ks : List D) : Bool := ks.all isName
theorem kindIn_str {ks : List D} {d : D} (h : nms ks = true) : (isStr d && kindIn ks d) = kindIn ks d := by
  cases d with
  | str z => rfl
  | _ =>
    symm
    show kindIn ks _ = false
    unfold kindIn
    rw [List.any_eq_false]
    intro z hz
    obtain ⟨y, rfl⟩ := isName_str (List.all_eq_true.mp h z hz)
    intro e
    cases e
theorem eqv_nil (xs : List D) : PyData.eqv (.list xs) (.list []) = xs.isEmpty := by cases xs <;> rfl
/-- hours told by their places -/
def desc (ns : List Int) (k : Nat) : Bool := match ns[k - 1]?, ns[k]? with
  | some a, some b => decide (a ≥ b)
  | _, _ => false
theorem ris_desc : ∀ (ns : List Int), ris ns = (List.range' 1 (ns.length - 1)).all fun k => !desc ns k := by
  intro ns
  unfold ris
  rw [Bool.eq_iff_iff, List.all_eq_true, List.all_eq_true]
  constructor
  · intro h k hk
    have hk := List.mem_range'_1.mp hk
    have h1 : k - 1 < ns.length := by omega
    have h2 : k < ns.length := by omega
    have hz : (ns.zip (ns.drop 1))[k - 1]? = some (ns[k - 1], ns[k]) := by
      rw [List.getElem?_zip_eq_some]
      refine ⟨List.getElem?_eq_getElem h1, ?_⟩
      rw [List.getElem?_drop, show 1 + (k - 1) = k by omega]
      exact List.getElem?_eq_getElem h2
    have := of_decide_eq_true (h _ (List.mem_of_getElem? hz))
    unfold desc
    rw [List.getElem?_eq_getElem h1, List.getElem?_eq_getElem h2]
    simp only [Bool.not_eq_true', decide_eq_false_iff_not]
    simp only at this
    omega
  · intro h p hp
    obtain ⟨i, hi⟩ := List.getElem?_of_mem hp
    rw [List.getElem?_zip_eq_some, List.getElem?_drop] at hi
    have h1 := (List.getElem?_eq_some_iff.mp hi.1).1
    have h2 := (List.getElem?_eq_some_iff.mp hi.2).1
    have := h (1 + i) (List.mem_range'_1.mpr ⟨by omega, by omega⟩)
    unfold desc at this
    rw [show 1 + i - 1 = i by omega, hi.1, hi.2] at this
    simp only [Bool.not_eq_true', decide_eq_false_iff_not] at this
    exact decide_eq_true (by omega)
theorem ris_pair : ∀ {ns : List Int}, ris ns = true → ∀ (i : Nat) a, ns[i]? = some a → ∀ lo, (∀ x ∈ ns, lo ≤ x) → lo + i ≤ a
  | ns, h, 0, a, ha, lo, hl => by
    have := hl a (List.mem_of_getElem? ha)
    omega
  | ns, h, i + 1, a, ha, lo, hl => by
    have h1 : i < ns.length := by
      have := (List.getElem?_eq_some_iff.mp ha).1
      omega
    have ih := ris_pair h i ns[i] (List.getElem?_eq_getElem h1) lo hl
    have hz : (ns.zip (ns.drop 1))[i]? = some (ns[i], a) := by
      rw [List.getElem?_zip_eq_some]
      refine ⟨List.getElem?_eq_getElem h1, ?_⟩
      rw [List.getElem?_drop, show 1 + i = i + 1 by omega]
      exact ha
    have := of_decide_eq_true ((List.all_eq_true.mp h) _ (List.mem_of_getElem? hz))
    simp only at this
    omega
theorem ris_len {ns : List Int} {n : Int} (h : ris ns = true) (hb : ∀ x ∈ ns, 0 ≤ x ∧ x ≤ n - 1) : (ns.length : Int) ≤ n ∨ ns = [] := by
  cases e : ns.length with
  | zero => exact .inr (List.length_eq_zero_iff.mp e)
  | succ m =>
    have hm : m < ns.length := by omega
    have h1 := ris_pair h m ns[m] (List.getElem?_eq_getElem hm) 0 (fun x hx => (hb x hx).1)
    have h2 := (hb ns[m] (List.getElem_mem hm)).2
    exact .inl (by omega)
def sRisW : List D → Option D
  | [d, .int n] => if okD d = true ∧ 1 ≤ n then some (.bool (hoursOk n d)) else none
  | _ => none
def sSrcW : List D → Option D
  | [.int n, .tuple ks, d] => if (nms ks && okD (.tuple ks) && okD d) = true then some (srcF n ks d) else none
  | _ => none
def sPartW : List D → Option D
  | [.tuple ks, d] => if (nms ks && okD (.tuple ks) && okD d) = true then some (partF ks d) else none
  | _ => none
section
variable {P : Program} {w : World} {K : PySem.W.Frag} {mg : Str → Option Value} {base : Heap}
theorem ok_is {f : Addr} {fd : FuncData} (F : Fun K "_law_is" "_law_is" s_law_is f fd) (m_isinstance : mg "isinstance" = none) (m_int : mg "int" = none) (m_bool : mg "bool" = none) : FnOk P w K mg base CX0 1 f fd ["_law_thing", "_law_low", "_law_high"] (spD 3 sFrom) := by
  refine okFn F sc_law_is rfl fun cdv A outer s H E hr => ⟨_, (dSs_one (dS_ret (ps_ret (dE_and (dE_isi (dE_var (μ := true) (pv 0)) (pe_bltn (v := .ty "int") (by rfl) m_int (by decide +kernel) rfl) (by rfl) m_isinstance (by decide +kernel)) (dE_and (dE_not (dE_isi (dE_var (μ := true) (pv 0)) (pe_bltn (v := .ty "bool") (by rfl) m_bool (by decide +kernel) rfl) (by rfl) m_isinstance (by decide +kernel))) (dE_one (dE_chain o_le o_le (dE_var (μ := true) (pv 1)) (dE_var (μ := true) (pv 0)) (dE_var (μ := true) (pv 2))))))))), fun ds d l e => ?_⟩
  match ds, e with
  | [x, .int lo, .int hi], e =>
    cases e
    refine ⟨.rt (.bool (isFrom lo hi x)), ?_, rfl⟩
    cases x <;> try rfl
    rename_i i
    by_cases h : lo ≤ i <;> simp [startR, sRet, eAnd, eNot, e1, isi_int, isi_bool, eVar, eChain, isFrom, leD, bB, h]
theorem ok_rowW {f : Addr} {fd : FuncData} (F : Fun K "_law_row_of" "_law_row_of" s_law_row_of f fd) (m_isinstance : mg "isinstance" = none) (m_tuple : mg "tuple" = none) (m_len : mg "len" = none) : FnOk P w K mg base CX0 1 f fd ["_law_thing", "_law_few", "_law_many"] (spD 3 sRow) := by
  refine okFn F sc_law_row_of rfl fun cdv A outer s H E hr => ⟨_, (dSs_one (dS_ret (ps_ret (dE_and (dE_isi (dE_var (μ := true) (pv 0)) (pe_bltn (v := .ty "tuple") (by rfl) m_tuple (by decide +kernel) rfl) (by rfl) m_isinstance (by decide +kernel)) (dE_one (dE_chain o_le o_le (dE_var (μ := true) (pv 1)) (dE_callB c_len (by rfl) m_len (by decide +kernel) (dA_cons (dE_var (μ := true) (pv 0)) (dA_nil (μ := true)))) (dE_var (μ := true) (pv 2)))))))), fun ds d l e => ?_⟩
  match ds, e with
  | [x, .int lo, .int hi], e =>
    cases e
    refine ⟨.rt (.bool (isRow lo hi x)), ?_, rfl⟩
    cases x <;> try rfl
    rename_i xs
    by_cases h : lo ≤ xs.length <;> simp [startR, sRet, eAnd, e1, isi_tuple, eChain, eCall, aCons, aNil, lenD, eVar, isRow, leD, bB, h]
theorem ok_kindW {f : Addr} {fd : FuncData} (F : Fun K "_law_kind_in" "_law_kind_in" s_law_kind_in f fd) (m_isinstance : mg "isinstance" = none) (m_str : mg "str" = none) : FnOk P w K mg base CX0 1 f fd ["_law_kinds_here", "_law_thing"] (spD 2 sKindIn) := by
  refine okFn F sc_law_kind_in rfl fun cdv A outer s H E hr => ⟨_, (dSs_one (dS_ret (ps_ret (dE_and (dE_isi (dE_var (μ := true) (pv 1)) (pe_bltn (v := .ty "str") (by rfl) m_str (by decide +kernel) rfl) (by rfl) m_isinstance (by decide +kernel)) (dE_one (dE_cmp (o_in (u65 hr)) (dE_var (μ := true) (pv 1)) (dE_var (μ := true) (pv 0)) (by rfl))))))), fun ds d l e => ?_⟩
  match ds, e with
  | [.tuple ks, x], e =>
    obtain ⟨ok, rfl⟩ := iteS e
    have ok := Bool.and_eq_true_iff.mp ok
    refine ⟨.rt (.bool (isStr x && kindIn ks x)), ev_ret (ev_and (b := isStr x) ((isi_str x).trans (by cases x <;> rfl)) (fun h => ?_) (fun h => by rw [h]; rfl)), rfl⟩
    show inD x (.tuple ks) = _
    rw [in_tup ok.2 ok.1, h]
    rfl
theorem ok_nameW {f : Addr} {fd : FuncData} (F : Fun K "_law_name" "_law_name" s_law_name f fd) (m_isinstance : mg "isinstance" = none) (m_str : mg "str" = none) (m_len : mg "len" = none) : FnOk P w K mg base CX0 1 f fd ["_law_thing"] (spD 1 fun ds => match ds with | [d] => if okD d = true then some (.bool (isName d)) else none | _ => none) := by
  refine okFn F sc_law_name rfl fun cdv A outer s H E hr => ⟨_, (dSs_cons (dS_if (PW.pt (dW_or (dT_not (dT_val (dE_isi (dE_var (μ := true) (pv 0)) (pe_bltn (v := .ty "str") (by rfl) m_str (by decide +kernel) rfl) (by rfl) m_isinstance (by decide +kernel)))) (dW_or1 (dT_not (dT_chain o_le o_le (dE_c (μ := true) pe_int) (dE_callB c_len (by rfl) m_len (by decide +kernel) (dA_cons (dE_var (μ := true) (pv 0)) (dA_nil (μ := true)))) (dE_c (μ := true) pe_int))))))
    (dSs_one (dS_ret (ps_ret (dE_c (μ := true) pe_bl))))
    dSs_nil)
  (dSs_one (dS_ret (ps_ret (dE_cmp (o_eq hr.units) (dE_lc (K := K) (p := (.nm 1)) (pe_lc (own := [("_law_sign", 1)]) (g := gP K (.nm 1)) rfl sc_law_name.nd (dI_str (dE_var (μ := true) (pv 0))) (blkOk_by (own := [("_law_sign", 1)]) (N := ["_law_thing", "_law_sign"]) (sc := defScope s_law_name) (by decide +kernel)) (fun _ _ _ _ _ => (pg_name (i := 1) sc_law_name.nd rfl (.inl rfl))) (fun _ _ _ _ _ => (pts_one (dT_cmp (o_nin (u65 hr)) (dE_var (μ := true) (pv 1)) (dE_c (μ := true) pe_str) (by rfl)))) (fun _ _ _ _ _ => (dE_var (μ := true) (pv 1))))) (dE_lst (dA_nil (μ := true))) (nomark _)))))), fun ds d l e => ?_⟩
  match ds, e with
  | [x], e =>
    obtain ⟨ok, rfl⟩ := iteS e
    refine ⟨.rt (.bool (isName x)), ?_, rfl⟩
    by_cases hs : ∃ z, x = .str z
    · obtain ⟨z, rfl⟩ := hs
      refine (ev_guard (b := !(decide (1 ≤ (z.length : Int)) && decide ((z.length : Int) ≤ 8))) ?_ rfl).trans ?_
      · refine (ev_oOr (b := false) (ev_not (b := true) (ev_oB ((isi_str (.str z)).trans rfl)))).trans ?_
        refine ev_not (ev_oB ?_)
        by_cases h : 1 ≤ (z.length : Int)
        · simp [eChain, eC, eCall, aCons, aNil, eVar, lenD, leD, bB, startR, h]
        · simp [eChain, eC, eCall, aCons, aNil, eVar, lenD, leD, bB, startR, h]
      · cases h1 : (decide (1 ≤ (z.length : Int)) && decide ((z.length : Int) ≤ 8)) with
        | false => simp only [isName, h1]; rfl
        | true =>
          have lc := ev_lcIf (i := 1) (c := oB (e2 ninD (eVar 1) (eC (.str (Str.ofString "abcdefghijklmnopqrstuvwxyz"))))) (f := eVar 1) (ρ := [some (.dat (.str z)), none]) (k := fun x => (match x with | .str s => (match s.cps.toList with | [c] => !decide (c ∈ LET) | _ => false) | _ => false)) (t := id) (by show 1 < 2; decide) (strL z) (fun x hx => by
            obtain ⟨c, _, rfl⟩ := List.mem_map.mp hx
            rfl) (fun x hx _ => rfl)
          refine ev_ret ?_
          unfold e2
          rw [ev_lcE (items := strL z) rfl lc]
          show eqD _ _ = _
          rw [List.map_id, eq_ok (okL fun d m => ?_) ok_nil, eqv_nil]
          · simp only [isName, h1, Bool.true_and]
            congr 2
            unfold strL
            rw [Bool.eq_iff_iff, List.isEmpty_iff, List.filter_eq_nil_iff, List.all_eq_true]
            constructor
            · intro h c hc
              have := h (.str ⟨#[c]⟩) (List.mem_map.mpr ⟨c, hc, rfl⟩)
              simpa using this
            · intro h x hx
              obtain ⟨c, hc, rfl⟩ := List.mem_map.mp hx
              have := h c hc
              simpa using this
          · have m := (List.mem_filter.mp m).1
            obtain ⟨c, hc, rfl⟩ := List.mem_map.mp m
            obtain ⟨_, o2⟩ := okD.parts ok
            have o3 : PyData.strOk z = true := (Bool.and_eq_true_iff.mp o2).1
            have o4 : c < 1114112 := by
              unfold PyData.strOk at o3
              rw [Array.all_eq_true'] at o3
              exact of_decide_eq_true (o3 c (Array.mem_toList_iff.mp hc))
            refine ⟨?_, Nat.zero_le _⟩
            show (true && (PyData.strOk ⟨#[c]⟩ && true)) = true
            simp [PyData.strOk, o4]
    · have hn : isName x = false := by
        cases x <;> first | rfl | exact (hs ⟨_, rfl⟩).elim
      rw [hn]
      refine (ev_guard (b := true) ?_ rfl).trans rfl
      refine (ev_oOr (b := true) (ev_not (b := false) (ev_oB ((isi_str x).trans ?_)))).trans rfl
      cases x <;> first | rfl | exact (hs ⟨_, rfl⟩).elim
end
end Dl
namespace Dl
open PySem PySem.Spec PyProof.Rows L2 Rt
mutual
def sm : D → Bool
  | .tuple ds => decide (ds.length ≤ 1000) && smAll ds
  | _ => true
def smAll : List D → Bool
  | [] => true
  | d :: ds => sm d && smAll ds
end
theorem smAll.mem : ∀ {ds : List D}, smAll ds = true → ∀ d ∈ ds, sm d = true
  | [], _ => fun d m => nomatch m
  | x :: xs, h => by
    have h := Bool.and_eq_true_iff.mp (show (sm x && smAll xs) = true from h)
    intro d m
    rcases List.mem_cons.mp m with e | e
    · rw [e]; exact h.1
    · exact smAll.mem h.2 d e
theorem sm.tup {ds : List D} (h : sm (.tuple ds) = true) : ds.length ≤ 1000 ∧ ∀ d ∈ ds, sm d = true := by
  have h := Bool.and_eq_true_iff.mp (show (decide (ds.length ≤ 1000) && smAll ds) = true from h)
  exact ⟨of_decide_eq_true h.1, smAll.mem h.2⟩
def isTup : D → Bool
  | .tuple _ => true
  | _ => false
theorem isi_tup (d : D) : isTy "tuple" d = some (.bool (isTup d)) := (isi_tuple d).trans (by cases d <;> rfl)
def sRisX : List D → Option D
  | [d, .int n] => if (okD d && sm d) = true ∧ 1 ≤ n then some (.bool (hoursOk n d)) else none
  | _ => none
theorem atI_ints {ns : List Int} {k : Nat} {a : Int} (h : ns[k]? = some a) : L2.atI (ns.map PyData.int) (k : Int) = some (.int a) := atI_nat (by rw [List.getElem?_map, h]; rfl)
section
variable {P : Program} {w : World} {K : PySem.W.Frag} {mg : Str → Option Value} {base : Heap}
theorem ok_risW {f : Addr} {fd : FuncData} (F : Fun K "_law_rising" "_law_rising" s_law_rising f fd) (m_isinstance : mg "isinstance" = none) (m_tuple : mg "tuple" = none) (m_range : mg "range" = none) (m_len : mg "len" = none) (C__law_is : Cl P w K mg base 1 "_law_is" ["_law_thing", "_law_low", "_law_high"] (spD 3 sFrom)) : FnOk P w K mg base CX0 2 f fd ["_law_thing", "_law_many"] (spD 2 sRisX) := by
  refine okFn F sc_law_rising rfl fun cdv A outer s H E hr => ⟨_, (dSs_cons (dS_if (dT_not (dT_val (dE_isi (dE_var (μ := true) (pv 0)) (pe_bltn (v := .ty "tuple") (by rfl) m_tuple (by decide +kernel) rfl) (by rfl) m_isinstance (by decide +kernel))))
    (dSs_one (dS_ret (ps_ret (dE_c (μ := true) pe_bl))))
    dSs_nil)
  (dSs_cons (dS_if (dT_cmp (o_ne hr.units) (dE_lc (K := K) (p := (.nm 2)) (pe_lc (own := [("_law_one_here", 2)]) (g := gP K (.nm 2)) rfl sc_law_rising.nd (dI_seq (dE_var (μ := true) (pv 0))) (blkOk_by (own := [("_law_one_here", 2)]) (N := ["_law_thing", "_law_many", "_law_one_here", "_law_k"]) (sc := defScope s_law_rising) (by decide +kernel)) (fun _ _ _ _ _ => (pg_name (i := 2) sc_law_rising.nd rfl (.inl rfl))) (fun _ _ _ _ _ => (pts_one (dT_not (dT_val (dE_cl C__law_is (hr.mono (by omega)) (by rfl) (dA_cons (dE_var (μ := true) (pv 2)) (dA_cons (dE_c (μ := true) pe_int) (dA_cons (dE_op o_sub (dE_var (μ := true) (pv 1)) (dE_c (μ := true) pe_int)) (dA_nil (μ := true)))))))))) (fun _ _ _ _ _ => (dE_var (μ := true) (pv 2))))) (dE_lst (dA_nil (μ := true))) (nomark _))
    (dSs_one (dS_ret (ps_ret (dE_c (μ := true) pe_bl))))
    dSs_nil)
  (dSs_one (dS_ret (ps_ret (dE_cmp (o_eq hr.units) (dE_lc (K := K) (p := (.nm 3)) (pe_lc (own := [("_law_k", 3)]) (g := gP K (.nm 3)) rfl sc_law_rising.nd (dI_ran2 (by rfl) m_range (dA_cons (dE_c (μ := true) pe_int) (dA_cons (dE_callB c_len (by rfl) m_len (by decide +kernel) (dA_cons (dE_var (μ := true) (pv 0)) (dA_nil (μ := true)))) (dA_nil (μ := true))))) (blkOk_by (own := [("_law_k", 3)]) (N := ["_law_thing", "_law_many", "_law_one_here", "_law_k"]) (sc := defScope s_law_rising) (by decide +kernel)) (fun _ _ _ _ _ => (pg_name (i := 3) sc_law_rising.nd rfl (.inl rfl))) (fun _ _ _ _ _ => (pts_one (dT_cmp o_ge (dE_ix (dE_var (μ := true) (pv 0)) (dE_op o_sub (dE_var (μ := true) (pv 3)) (dE_c (μ := true) pe_int))) (dE_ix (dE_var (μ := true) (pv 0)) (dE_var (μ := true) (pv 3))) (nomark _)))) (fun _ _ _ _ _ => (dE_var (μ := true) (pv 3))))) (dE_lst (dA_nil (μ := true))) (nomark _))))))), fun ds d l e => ?_⟩
  match ds, e with
  | [x, .int n], e =>
    obtain ⟨⟨ok, n1⟩, rfl⟩ := iteS e
    have ok := Bool.and_eq_true_iff.mp ok
    refine ⟨.rt (.bool (hoursOk n x)), ?_, rfl⟩
    refine (ev_guard (b := !isTup x) (ev_not (ev_oB (isi_tup x))) rfl).trans ?_
    by_cases ht : ∃ xs, x = .tuple xs
    · obtain ⟨xs, rfl⟩ := ht
      refine (show (if (!true) = true then _ else _) = _ from if_neg (by decide)).trans ?_
      have sml := (sm.tup ok.2).1
      have lc1 : eLc true [2] (itSeq (eVar 0)) (.nm 2) (oNot (oB (eCall (gN 3 sFrom) (aCons (eVar 2) (aCons (eC (.int 0)) (aCons (e2 subD (eVar 1) (eC (.int 1))) aNil)))))) (eVar 2) (startR 4 [.tuple xs, .int n]) = some (.list (xs.filter fun x => !isFrom 0 (n - 1) x)) := by
        refine (ev_lcE rfl (ev_lcIf (k := fun x => !isFrom 0 (n - 1) x) (t := id) (by show 2 < 4; decide) xs (fun x hx => rfl) (fun x hx _ => rfl))).trans (by rw [List.map_id])
      have okf : okD (.list (xs.filter fun x => !isFrom 0 (n - 1) x)) = true := okL fun d m => okD.tupD ok.1 d (List.mem_filter.mp m).1
      refine (ev_guard (b := !(xs.filter fun x => !isFrom 0 (n - 1) x).isEmpty) (ev_oB (ev_e2 lc1 rfl (by rw [ne_ok okf ok_nil, eqv_nil]))) rfl).trans ?_
      have fe : (xs.filter fun x => !isFrom 0 (n - 1) x).isEmpty = xs.all (isFrom 0 (n - 1)) := by
        rw [Bool.eq_iff_iff, List.isEmpty_iff, List.filter_eq_nil_iff, List.all_eq_true]
        constructor
        · intro h y hy
          simpa using h y hy
        · intro h y hy
          simpa using h y hy
      rw [fe]
      cases ha : xs.all (isFrom 0 (n - 1)) with
      | false => simp only [hoursOk, ha, Bool.false_and, Bool.and_false]; rfl
      | true =>
        refine (show (if (!true) = true then _ else _) = _ from if_neg (by decide)).trans ?_
        obtain ⟨ns, en⟩ := ints_of ha
        have ex := ints_eq en
        have hb : ∀ y ∈ ns, 0 ≤ y ∧ y ≤ n - 1 := fun y hy => by
          have := List.all_eq_true.mp ha (.int y) (by rw [ex]; exact List.mem_map.mpr ⟨y, hy, rfl⟩)
          simpa [isFrom] using this
        have hl : xs.length = ns.length := by rw [ex, List.length_map]
        have hO : hoursOk n (.tuple xs) = ris ns := by
          simp only [hoursOk, ha, en, Bool.true_and]
          cases hr : ris ns with
          | false => rw [Bool.and_false]
          | true =>
            rw [Bool.and_true]
            show (decide ((0 : Int) ≤ xs.length) && decide ((xs.length : Int) ≤ n)) = true
            rcases ris_len hr hb with h | h
            · simp; omega
            · rw [hl, h]; simp; omega
        rw [hO, ris_desc]
        have itr : itG ran2D (aCons (eC (.int 1)) (aCons (eCall lenD (aCons (eVar 0) aNil)) aNil)) (startR 4 [.tuple xs, .int n]) = some (rgD 1 (ns.length - 1)) := by
          have r2 := ran2_ok (i := 1) (j := xs.length) (by decide) (by decide) (by omega) (by omega) (by omega)
          rw [show ((xs.length : Int) - 1).toNat = ns.length - 1 by omega] at r2
          exact ev_itG rfl r2
        have lc2 : eLc true [3] (itG ran2D (aCons (eC (.int 1)) (aCons (eCall lenD (aCons (eVar 0) aNil)) aNil))) (.nm 3) (oB (e2 geD (e2 ixD (eVar 0) (e2 subD (eVar 3) (eC (.int 1)))) (e2 ixD (eVar 0) (eVar 3)))) (eVar 3) (startR 4 [.tuple xs, .int n]) = some (.list (((rgD 1 (ns.length - 1)).filter fun x => match x with | .int k => desc ns k.toNat | _ => false).map id)) := ev_lcE (μ := true) (vs := [3]) itr (ev_lcIf (i := 3) (c := oB (e2 geD (e2 ixD (eVar 0) (e2 subD (eVar 3) (eC (.int 1)))) (e2 ixD (eVar 0) (eVar 3)))) (f := eVar 3) (ρ := [some (.dat (.tuple xs)), some (.dat (.int n)), none, none]) (k := fun x => match x with | .int k => desc ns k.toNat | _ => false) (t := id) (by show 3 < 4; decide) (rgD 1 (ns.length - 1)) (fun x hx => by
          obtain ⟨i, hi, rfl⟩ := List.mem_map.mp hx
          have hi := List.mem_range.mp hi
          have h1 : i < ns.length := by omega
          have h2 : 1 + i < ns.length := by omega
          show (((L2.atI xs ((1 : Int) + i - 1)).bind fun a => (L2.atI xs ((1 : Int) + i)).bind fun b => geD a b).bind bB) = _
          rw [show (1 : Int) + i - 1 = (i : Nat) by omega, show (1 : Int) + i = ((1 + i : Nat) : Int) by omega, ex, atI_ints (List.getElem?_eq_getElem h1), atI_ints (List.getElem?_eq_getElem h2)]
          show some (decide (ns[i] ≥ ns[1 + i])) = some (desc ns ((1 + i : Nat) : Int).toNat)
          unfold desc
          rw [Int.toNat_natCast, show 1 + i - 1 = i by omega, List.getElem?_eq_getElem h1, List.getElem?_eq_getElem h2]) (fun x hx _ => rfl))
        refine ev_ret (ev_e2 lc2 rfl ?_)
        rw [List.map_id, eq_ok (okL fun d m => ?_) ok_nil, eqv_nil]
        · refine congrArg (fun b => some (PyData.bool b)) ?_
          rw [Bool.eq_iff_iff, List.isEmpty_iff, List.filter_eq_nil_iff, List.all_eq_true]
          constructor
          · intro h k hk
            have hk := List.mem_range'_1.mp hk
            have := h (.int (1 + (k - 1 : Nat))) (List.mem_map.mpr ⟨k - 1, List.mem_range.mpr (by omega), rfl⟩)
            rw [show (1 : Int) + (k - 1 : Nat) = (k : Nat) by omega] at this
            simpa using this
          · intro h x hx
            obtain ⟨i, hi, rfl⟩ := List.mem_map.mp hx
            have hi := List.mem_range.mp hi
            have := h (1 + i) (List.mem_range'_1.mpr ⟨by omega, by omega⟩)
            show ¬ desc ns ((1 : Int) + i).toNat = true
            rw [show ((1 : Int) + i).toNat = 1 + i by omega]
            simpa using this
        · obtain ⟨i, _, rfl⟩ := List.mem_map.mp (List.mem_filter.mp m).1
          exact ok_int _
    · have hn : hoursOk n x = false := by
        cases x <;> first | rfl | exact (ht ⟨_, rfl⟩).elim
      rw [hn]
      cases x <;> first | rfl | exact (ht ⟨_, rfl⟩).elim
def sPut : List D → Option D
  | [.tuple r, .int i, d] => if 0 ≤ i ∧ i < r.length ∧ r.length ≤ 1000 then some (.tuple (r.set i.toNat d)) else none
  | _ => none
theorem cut_to {α : Type} {xs : List α} {m : Nat} (h : m ≤ xs.length) : cutD xs none (some (m : Int)) = xs.take m := by
  unfold cutD
  rw [HT.sIx_none, HT.sIx_nat, List.drop_zero, Nat.sub_zero, Nat.min_eq_left h]
theorem cut_fr {α : Type} {xs : List α} {m : Nat} (h : m ≤ xs.length) : cutD xs (some (m : Int)) none = xs.drop m := by
  unfold cutD
  rw [HT.sIx_none, HT.sIx_nat, Nat.min_eq_left h, List.take_of_length_le (by rw [List.length_drop]; omega)]
theorem ok_put {f : Addr} {fd : FuncData} (F : Fun K "_law_put" "_law_put" s_law_put f fd) : FnOk P w K mg base CX0 1 f fd ["_law_row", "_law_spot", "_law_thing"] (spD 3 sPut) := by
  refine okFn F sc_law_put rfl fun cdv A outer s H E hr => ⟨_, (dSs_one (dS_ret (ps_ret (dE_op o_add (dE_op o_add (dE_sl (dE_var (μ := true) (pv 0)) dO_none (dO_some (dE_var (μ := true) (pv 1)))) (dE_tup (dA_cons (dE_var (μ := true) (pv 2)) (dA_nil (μ := true))))) (dE_sl (dE_var (μ := true) (pv 0)) (dO_some (dE_op o_add (dE_var (μ := true) (pv 1)) (dE_c (μ := true) pe_int))) dO_none))))), fun ds d l e => ?_⟩
  match ds, e with
  | [.tuple r, .int i, x], e =>
    obtain ⟨⟨i0, i1, i2⟩, rfl⟩ := iteS e
    refine ⟨.rt (.tuple (r.set i.toNat x)), ev_ret ?_, rfl⟩
    obtain ⟨m, rfl⟩ := Int.eq_ofNat_of_zero_le i0
    have hm : m < r.length := by omega
    show ((addD (.tuple (cutD r none (some (m : Int)))) (.tuple [x])).bind fun a => addD a (.tuple (cutD r (some ((m : Int) + 1)) none))) = _
    rw [cut_to (by omega), show ((m : Int) + 1) = ((m + 1 : Nat) : Int) by omega, cut_fr (by omega), add_tup (by rw [List.length_take]; exact sz (by simp; omega))]
    show addD (.tuple _) (.tuple _) = _
    rw [add_tup (by rw [List.length_append, List.length_take, List.length_drop]; exact sz (by simp; omega))]
    rw [Int.toNat_natCast, List.set_eq_take_append_cons_drop, if_pos hm, List.append_assoc]
    rfl
end
end Dl
namespace Dl
open PySem PySem.Spec PyProof.Rows L2 Rt
def gd (d : D) : Bool := okD d && sm d
theorem gd.parts {d : D} (h : gd d = true) : okD d = true ∧ sm d = true := Bool.and_eq_true_iff.mp h
theorem gd.tup {ds : List D} (h : gd (.tuple ds) = true) : ∀ d ∈ ds, gd d = true := fun d m =>
  Bool.and_eq_true_iff.mpr ⟨okD.tup (gd.parts h).1 d m, (sm.tup (gd.parts h).2).2 d m⟩
def sSrcX : List D → Option D
  | [.int n, .tuple ks, d] => if (nms ks && okD (.tuple ks) && gd d) = true then some (srcF n ks d) else none
  | _ => none
def sPartX : List D → Option D
  | [.tuple ks, d] => if (nms ks && okD (.tuple ks) && gd d) = true then some (partF ks d) else none
  | _ => none
def sWayX : List D → Option D
  | [.int n, .tuple ks, d] => if (nms ks && okD (.tuple ks) && gd d) = true ∧ 1 ≤ n then some (wayF n ks d) else none
  | _ => none
def sWorldX : List D → Option D
  | [d] => if gd d = true then some (worldF d) else none
  | _ => none
def gS (n : Int) (k : Nat) (x : D) : Option D := match k with
  | 0 => if isFrom 0 20 x = true then none else some (flt [1] "age")
  | 1 => if isFrom 0 (n - 1) x = true then none else some (flt [2] "place")
  | 2 => if isFrom 0 1000000 x = true then none else some (flt [3] "since")
  | 3 => if isFrom 1 9 x = true then none else some (flt [4] "many")
  | _ => none
theorem and3 {a b c : Bool} (h : (a && b && c) = true) : a = true ∧ b = true ∧ c = true := by
  cases a <;> cases b <;> cases c <;> simp at h ⊢
theorem ixN4 {α : Type} (a b c d : α) : L2.atI [a, b, c, d] 0 = some a ∧ L2.atI [a, b, c, d] 1 = some b ∧ L2.atI [a, b, c, d] 2 = some c ∧ L2.atI [a, b, c, d] 3 = some d := ⟨rfl, rfl, rfl, rfl⟩
section
variable {P : Program} {w : World} {K : PySem.W.Frag} {mg : Str → Option Value} {base : Heap}
theorem ok_partW {f : Addr} {fd : FuncData} (F : Fun K "_law_part_word" "_law_part_word" s_law_part_word f fd) (m_int : mg "int" = none)
    (C__law_row_of : Cl P w K mg base 1 "_law_row_of" ["_law_thing", "_law_few", "_law_many"] (spD 3 sRow)) (C__law_is : Cl P w K mg base 1 "_law_is" ["_law_thing", "_law_low", "_law_high"] (spD 3 sFrom)) (C__law_kind_in : Cl P w K mg base 1 "_law_kind_in" ["_law_kinds_here", "_law_thing"] (spD 2 sKindIn)) : FnOk P w K mg base CX0 2 f fd ["_law_kinds_here", "_law_part_here"] (spD 2 sPartX) := by
  refine okFn F sc_law_part_word rfl fun cdv A outer s H E hr => ⟨_, (dSs_cons (dS_if (dT_not (dT_val (dE_cl C__law_row_of (hr.mono (by omega)) (by rfl) (dA_cons (dE_var (μ := true) (pv 1)) (dA_cons (dE_c (μ := true) pe_int) (dA_cons (dE_c (μ := true) pe_int) (dA_nil (μ := true))))))))
    (dSs_one (dS_ret (ps_ret (dE_tup (dA_cons (dE_tup (dA_nil (μ := true))) (dA_cons (dE_c (μ := true) pe_str) (dA_nil (μ := true))))))))
    dSs_nil)
  (dSs_cons (dS_if (dT_not (dT_val (dE_cl C__law_kind_in (hr.mono (by omega)) (by rfl) (dA_cons (dE_var (μ := true) (pv 0)) (dA_cons (dE_ix (dE_var (μ := true) (pv 1)) (dE_c (μ := true) pe_int)) (dA_nil (μ := true)))))))
    (dSs_one (dS_ret (ps_ret (dE_tup (dA_cons (dE_tup (dA_cons (dE_c (μ := true) pe_int) (dA_nil (μ := true)))) (dA_cons (dE_c (μ := true) pe_str) (dA_nil (μ := true))))))))
    dSs_nil)
  (dSs_cons (dS_if (dT_not (dT_val (dE_cl C__law_is (hr.mono (by omega)) (by rfl) (dA_cons (dE_ix (dE_var (μ := true) (pv 1)) (dE_c (μ := true) pe_int)) (dA_cons (dE_c (μ := true) pe_int) (dA_cons (dE_c (μ := true) pe_int) (dA_nil (μ := true))))))))
    (dSs_one (dS_ret (ps_ret (dE_tup (dA_cons (dE_tup (dA_cons (dE_c (μ := true) pe_int) (dA_nil (μ := true)))) (dA_cons (dE_c (μ := true) pe_str) (dA_nil (μ := true))))))))
    dSs_nil)
  (dSs_one (dS_ret (ps_ret (dE_ix (dE_lst (dA_cons (dE_tup (dA_cons (dE_tup (dA_cons (dE_c (μ := true) pe_int) (dA_nil (μ := true)))) (dA_cons (dE_c (μ := true) pe_str) (dA_nil (μ := true))))) (dA_cons (dE_c (μ := true) pe_non) (dA_nil (μ := true))))) (dE_callTy c_int (by rfl) m_int (by decide +kernel) (dA_cons (dE_cl C__law_is (hr.mono (by omega)) (by rfl) (dA_cons (dE_ix (dE_var (μ := true) (pv 1)) (dE_c (μ := true) pe_int)) (dA_cons (dE_ix (dE_var (μ := true) (pv 1)) (dE_c (μ := true) pe_int)) (dA_cons (dE_c (μ := true) pe_int) (dA_nil (μ := true)))))) (dA_nil (μ := true))))))))))), fun ds d l e => ?_⟩
  match ds, e with
  | [.tuple ks, x], e =>
    obtain ⟨ok, rfl⟩ := iteS e
    obtain ⟨nk, ok1, gx⟩ := and3 ok
    refine ⟨.rt (partF ks x), ?_, rfl⟩
    refine (ev_guard (b := !isRow 3 3 x) rfl rfl).trans ?_
    cases h0 : isRow 3 3 x with
    | false =>
      have : partF ks x = flt [] "part" := by
        unfold partF
        split
        · cases h0
        · rfl
      rw [this]
      rfl
    | true =>
      obtain ⟨a, b, c, rfl⟩ := isRow_three h0
      have oa := (gd.parts (gd.tup gx a (by simp))).1
      have ek : sKindIn [.tuple ks, a] = some (.bool (kindIn ks a)) := (if_pos (by rw [ok1, oa]; rfl)).trans (by rw [kindIn_str nk])
      refine (ev_guard (b := !kindIn ks a) (ev_not (ev_oB (ev_call rfl rfl ek))) rfl).trans ?_
      cases h1 : kindIn ks a with
      | false => simp only [partF, h1]; rfl
      | true =>
        refine (ev_guard (b := !isFrom 0 20 b) rfl rfl).trans ?_
        cases h2 : isFrom 0 20 b with
        | false =>
          simp only [partF, h1]
          cases b <;> try rfl
          simp only [h2]
          rfl
        | true =>
          obtain ⟨lo, rfl⟩ := isFrom_int h2
          have e1 : partF ks (.tuple [a, .int lo, c]) = (if isFrom lo 20 c = true then .none else flt [2] "greatest") := by
            simp only [partF, h1, h2]
            cases isFrom lo 20 c <;> rfl
          rw [e1]
          refine ev_ret ?_
          cases h3 : isFrom lo 20 c <;> exact (ev_e2 (a := .list [flt [2] "greatest", .none]) (b := .int (if isFrom lo 20 c = true then 1 else 0)) rfl rfl (by rw [h3]; rfl)).trans rfl
theorem ok_srcW {f : Addr} {fd : FuncData} (F : Fun K "_law_source_word" "_law_source_word" s_law_source_word f fd) (m_range : mg "range" = none)
    (C__law_row_of : Cl P w K mg base 1 "_law_row_of" ["_law_thing", "_law_few", "_law_many"] (spD 3 sRow)) (C__law_is : Cl P w K mg base 1 "_law_is" ["_law_thing", "_law_low", "_law_high"] (spD 3 sFrom)) (C__law_kind_in : Cl P w K mg base 1 "_law_kind_in" ["_law_kinds_here", "_law_thing"] (spD 2 sKindIn)) : FnOk P w K mg base CX0 2 f fd ["_law_size", "_law_kinds_here", "_law_source_here"] (spD 3 sSrcX) := by
  refine okFn F sc_law_source_word rfl fun cdv A outer s H E hr => ⟨_, (dSs_cons (dS_if (dT_not (dT_val (dE_cl C__law_row_of (hr.mono (by omega)) (by rfl) (dA_cons (dE_var (μ := true) (pv 2)) (dA_cons (dE_c (μ := true) pe_int) (dA_cons (dE_c (μ := true) pe_int) (dA_nil (μ := true))))))))
    (dSs_one (dS_ret (ps_ret (dE_tup (dA_cons (dE_tup (dA_nil (μ := true))) (dA_cons (dE_c (μ := true) pe_str) (dA_nil (μ := true))))))))
    dSs_nil)
  (dSs_cons (dS_if (dT_not (dT_val (dE_cl C__law_kind_in (hr.mono (by omega)) (by rfl) (dA_cons (dE_var (μ := true) (pv 1)) (dA_cons (dE_ix (dE_var (μ := true) (pv 2)) (dE_c (μ := true) pe_int)) (dA_nil (μ := true)))))))
    (dSs_one (dS_ret (ps_ret (dE_tup (dA_cons (dE_tup (dA_cons (dE_c (μ := true) pe_int) (dA_nil (μ := true)))) (dA_cons (dE_c (μ := true) pe_str) (dA_nil (μ := true))))))))
    dSs_nil)
  (dSs_cons (dS_asg (K := K) (p := .nm 3) (ps_set (i := 3) sc_law_source_word.nd rfl (.inl rfl) (dE_lst (dA_cons (dE_tup (dA_cons (dE_c (μ := true) pe_str) (dA_cons (dE_c (μ := true) pe_int) (dA_cons (dE_c (μ := true) pe_int) (dA_nil (μ := true)))))) (dA_cons (dE_tup (dA_cons (dE_c (μ := true) pe_str) (dA_cons (dE_c (μ := true) pe_int) (dA_cons (dE_op o_sub (dE_var (μ := true) (pv 0)) (dE_c (μ := true) pe_int)) (dA_nil (μ := true)))))) (dA_cons (dE_tup (dA_cons (dE_c (μ := true) pe_str) (dA_cons (dE_c (μ := true) pe_int) (dA_cons (dE_op o_pow (dE_c (μ := true) pe_int) (dE_c (μ := true) pe_int)) (dA_nil (μ := true)))))) (dA_cons (dE_tup (dA_cons (dE_c (μ := true) pe_str) (dA_cons (dE_c (μ := true) pe_int) (dA_cons (dE_c (μ := true) pe_int) (dA_nil (μ := true)))))) (dA_nil (μ := true)))))))))
  (dSs_cons (dS_for (K := K) (p := (.nm 4)) (ps_for PassesOwn.never rfl (dI_ran1 (by rfl) m_range (dA_cons (dE_c (μ := true) pe_int) (dA_nil (μ := true)))) (pg_name (i := 4) sc_law_source_word.nd rfl (.inl rfl))
    (dSs_cons (dS_asg (K := K) (p := (.tp (.cons (.nm 5) (.cons (.nm 6) (.cons (.nm 7) .nil))))) (ps_asg (dE_ix (dE_var (μ := true) (pv 3)) (dE_var (μ := true) (pv 4))) (pg_tup (by rfl) (pgs_cons (pg_name (i := 5) sc_law_source_word.nd rfl (.inl rfl)) (pgs_cons (pg_name (i := 6) sc_law_source_word.nd rfl (.inl rfl)) (pgs_cons (pg_name (i := 7) sc_law_source_word.nd rfl (.inl rfl)) pgs_nil))))))
  (dSs_one (dS_if (dT_not (dT_val (dE_cl C__law_is (hr.mono (by omega)) (by rfl) (dA_cons (dE_ix (dE_var (μ := true) (pv 2)) (dE_op o_add (dE_var (μ := true) (pv 4)) (dE_c (μ := true) pe_int))) (dA_cons (dE_var (μ := true) (pv 6)) (dA_cons (dE_var (μ := true) (pv 7)) (dA_nil (μ := true))))))))
    (dSs_one (dS_ret (ps_ret (dE_tup (dA_cons (dE_tup (dA_cons (dE_op o_add (dE_var (μ := true) (pv 4)) (dE_c (μ := true) pe_int)) (dA_nil (μ := true)))) (dA_cons (dE_var (μ := true) (pv 5)) (dA_nil (μ := true))))))))
    dSs_nil)))))
  (dSs_one (dS_ret (ps_ret (dE_c (μ := true) pe_non)))))))), fun ds d l e => ?_⟩
  match ds, e with
  | [.int n, .tuple ks, x], e =>
    obtain ⟨ok, rfl⟩ := iteS e
    obtain ⟨nk, ok1, gx⟩ := and3 ok
    refine ⟨.rt (srcF n ks x), ?_, rfl⟩
    refine (ev_guard (b := !isRow 5 5 x) rfl rfl).trans ?_
    cases h0 : isRow 5 5 x with
    | false =>
      have : srcF n ks x = flt [] "source" := by
        unfold srcF
        split
        · cases h0
        · rfl
      rw [this]
      rfl
    | true =>
      obtain ⟨a, b, c, e', f', rfl⟩ := isRow_five h0
      have oa := (gd.parts (gd.tup gx a (by simp))).1
      have ek : sKindIn [.tuple ks, a] = some (.bool (kindIn ks a)) := (if_pos (by rw [ok1, oa]; rfl)).trans (by rw [kindIn_str nk])
      refine (ev_guard (b := !kindIn ks a) (ev_not (ev_oB (ev_call rfl rfl ek))) rfl).trans ?_
      cases h1 : kindIn ks a with
      | false => simp only [srcF, h1]; rfl
      | true =>
        let W : D := .list [.tuple [S "age", .int 0, .int 20], .tuple [S "place", .int 0, .int (n - 1)], .tuple [S "since", .int 0, .int 1000000], .tuple [S "many", .int 1, .int 9]]
        refine (ev_asg (d := W) (ρ' := [some (.dat (.int n)), some (.dat (.tuple ks)), some (.dat (.tuple [a, b, c, e', f'])), some (.dat W), none, none, none, none]) rfl rfl).trans ?_
        have fin : outG (.rt .none) (firstG (gS n) 0 [b, c, e', f']) = .rt (srcF n ks (.tuple [a, b, c, e', f'])) := by
          simp only [srcF, h1, firstG, gS]
          cases isFrom 0 20 b <;> cases isFrom 0 (n - 1) c <;> cases isFrom 0 1000000 e' <;> cases isFrom 1 9 f' <;> rfl
        rw [← fin]
        refine ev_rangeG (fun ρ => ∃ x y z u, ρ = [some (.dat (.int n)), some (.dat (.tuple ks)), some (.dat (.tuple [a, b, c, e', f'])), some (.dat W), x, y, z, u]) (.rt .none) (ev_itG rfl ((ran1_ok (j := 4) (by decide) (by decide)).trans rfl)) ⟨_, _, _, _, rfl⟩ (fun k x ρ ex gone i => ?_) (fun ρ i _ => by obtain ⟨x, y, z, u, rfl⟩ := i; rfl)
        obtain ⟨y1, y2, y3, y4, rfl⟩ := i
        match k, ex with
        | 0, ex =>
          cases ex
          refine ⟨[some (.dat (.int n)), some (.dat (.tuple ks)), some (.dat (.tuple [a, b, c, e', f'])), some (.dat W), some (.dat (.int 0)), y2, y3, y4], rfl, ?_⟩
          have st := ev_asg (g := sIf (oNot (oB (eCall (gN 3 sFrom) (aCons (e2 ixD (eVar 2) (e2 addD (eVar 4) (eC (.int 1)))) (aCons (eVar 6) (aCons (eVar 7) aNil)))))) (sRet (eTup (aCons (eTup (aCons (e2 addD (eVar 4) (eC (.int 1))) aNil)) (aCons (eVar 5) aNil)))) sNil) (p := .tp (.cons (.nm 5) (.cons (.nm 6) (.cons (.nm 7) .nil)))) (f := e2 ixD (eVar 3) (eVar 4)) (ρ := [some (.dat (.int n)), some (.dat (.tuple ks)), some (.dat (.tuple [a, b, c, e', f'])), some (.dat W), some (.dat (.int 0)), y2, y3, y4]) (ρ' := [some (.dat (.int n)), some (.dat (.tuple ks)), some (.dat (.tuple [a, b, c, e', f'])), some (.dat W), some (.dat (.int 0)), some (.dat (S "age")), some (.dat (.int 0)), some (.dat (.int 20))]) rfl rfl
          cases h : isFrom 0 20 b with
          | true => exact .inl ⟨by simp [gS, h], _, ⟨_, _, _, _, rfl⟩, st.trans ((ev_ifR (b := !isFrom 0 20 b) rfl).trans (by rw [h]; rfl))⟩
          | false => exact .inr ⟨_, by simp only [gS, h]; rfl, st.trans ((ev_ifR (b := !isFrom 0 20 b) rfl).trans (by rw [h]; rfl))⟩
        | 1, ex =>
          cases ex
          refine ⟨[some (.dat (.int n)), some (.dat (.tuple ks)), some (.dat (.tuple [a, b, c, e', f'])), some (.dat W), some (.dat (.int 1)), y2, y3, y4], rfl, ?_⟩
          have st := ev_asg (g := sIf (oNot (oB (eCall (gN 3 sFrom) (aCons (e2 ixD (eVar 2) (e2 addD (eVar 4) (eC (.int 1)))) (aCons (eVar 6) (aCons (eVar 7) aNil)))))) (sRet (eTup (aCons (eTup (aCons (e2 addD (eVar 4) (eC (.int 1))) aNil)) (aCons (eVar 5) aNil)))) sNil) (p := .tp (.cons (.nm 5) (.cons (.nm 6) (.cons (.nm 7) .nil)))) (f := e2 ixD (eVar 3) (eVar 4)) (ρ := [some (.dat (.int n)), some (.dat (.tuple ks)), some (.dat (.tuple [a, b, c, e', f'])), some (.dat W), some (.dat (.int 1)), y2, y3, y4]) (ρ' := [some (.dat (.int n)), some (.dat (.tuple ks)), some (.dat (.tuple [a, b, c, e', f'])), some (.dat W), some (.dat (.int 1)), some (.dat (S "place")), some (.dat (.int 0)), some (.dat (.int (n - 1)))]) rfl rfl
          cases h : isFrom 0 (n - 1) c with
          | true => exact .inl ⟨by simp [gS, h], _, ⟨_, _, _, _, rfl⟩, st.trans ((ev_ifR (b := !isFrom 0 (n - 1) c) rfl).trans (by rw [h]; rfl))⟩
          | false => exact .inr ⟨_, by simp only [gS, h]; rfl, st.trans ((ev_ifR (b := !isFrom 0 (n - 1) c) rfl).trans (by rw [h]; rfl))⟩
        | 2, ex =>
          cases ex
          refine ⟨[some (.dat (.int n)), some (.dat (.tuple ks)), some (.dat (.tuple [a, b, c, e', f'])), some (.dat W), some (.dat (.int 2)), y2, y3, y4], rfl, ?_⟩
          have st := ev_asg (g := sIf (oNot (oB (eCall (gN 3 sFrom) (aCons (e2 ixD (eVar 2) (e2 addD (eVar 4) (eC (.int 1)))) (aCons (eVar 6) (aCons (eVar 7) aNil)))))) (sRet (eTup (aCons (eTup (aCons (e2 addD (eVar 4) (eC (.int 1))) aNil)) (aCons (eVar 5) aNil)))) sNil) (p := .tp (.cons (.nm 5) (.cons (.nm 6) (.cons (.nm 7) .nil)))) (f := e2 ixD (eVar 3) (eVar 4)) (ρ := [some (.dat (.int n)), some (.dat (.tuple ks)), some (.dat (.tuple [a, b, c, e', f'])), some (.dat W), some (.dat (.int 2)), y2, y3, y4]) (ρ' := [some (.dat (.int n)), some (.dat (.tuple ks)), some (.dat (.tuple [a, b, c, e', f'])), some (.dat W), some (.dat (.int 2)), some (.dat (S "since")), some (.dat (.int 0)), some (.dat (.int 1000000))]) rfl rfl
          cases h : isFrom 0 1000000 e' with
          | true => exact .inl ⟨by simp [gS, h], _, ⟨_, _, _, _, rfl⟩, st.trans ((ev_ifR (b := !isFrom 0 1000000 e') rfl).trans (by rw [h]; rfl))⟩
          | false => exact .inr ⟨_, by simp only [gS, h]; rfl, st.trans ((ev_ifR (b := !isFrom 0 1000000 e') rfl).trans (by rw [h]; rfl))⟩
        | 3, ex =>
          cases ex
          refine ⟨[some (.dat (.int n)), some (.dat (.tuple ks)), some (.dat (.tuple [a, b, c, e', f'])), some (.dat W), some (.dat (.int 3)), y2, y3, y4], rfl, ?_⟩
          have st := ev_asg (g := sIf (oNot (oB (eCall (gN 3 sFrom) (aCons (e2 ixD (eVar 2) (e2 addD (eVar 4) (eC (.int 1)))) (aCons (eVar 6) (aCons (eVar 7) aNil)))))) (sRet (eTup (aCons (eTup (aCons (e2 addD (eVar 4) (eC (.int 1))) aNil)) (aCons (eVar 5) aNil)))) sNil) (p := .tp (.cons (.nm 5) (.cons (.nm 6) (.cons (.nm 7) .nil)))) (f := e2 ixD (eVar 3) (eVar 4)) (ρ := [some (.dat (.int n)), some (.dat (.tuple ks)), some (.dat (.tuple [a, b, c, e', f'])), some (.dat W), some (.dat (.int 3)), y2, y3, y4]) (ρ' := [some (.dat (.int n)), some (.dat (.tuple ks)), some (.dat (.tuple [a, b, c, e', f'])), some (.dat W), some (.dat (.int 3)), some (.dat (S "many")), some (.dat (.int 1)), some (.dat (.int 9))]) rfl rfl
          cases h : isFrom 1 9 f' with
          | true => exact .inl ⟨by simp [gS, h], _, ⟨_, _, _, _, rfl⟩, st.trans ((ev_ifR (b := !isFrom 1 9 f') rfl).trans (by rw [h]; rfl))⟩
          | false => exact .inr ⟨_, by simp only [gS, h]; rfl, st.trans ((ev_ifR (b := !isFrom 1 9 f') rfl).trans (by rw [h]; rfl))⟩
        | k + 4, ex => cases ex
end
end Dl
namespace Dl
open PySem PySem.Spec PyProof.Rows L2 Rt
theorem ev_cons {f : EF} {g : Rho → Option (List D)} {ρ : Rho} {d : D} {ds : List D} (h1 : f ρ = some d) (h2 : g ρ = some ds) : aCons f g ρ = some (d :: ds) := by
  unfold aCons
  rw [h1]
  show (g ρ).map _ = _
  rw [h2]
  rfl
theorem below_below (p q : List D) (d : D) : below p (below q d) = below (p ++ q) d := by
  unfold below
  split <;> simp_all
  · rename_i i w h
    split at h
    · cases h; simp
    · subst h; rename_i h2; exact (h2 _ _ rfl).elim
  · rename_i h
    split
    · rename_i i w
      split at h
      · exact (h _ _ rfl).elim
      · rename_i h2; exact (h2 _ _ rfl).elim
    · rfl
theorem below_first {p q : List D} {f : D → D} : ∀ (xs : List D) (k : Nat), below p (firstF q f k xs) = firstF (p ++ q) f k xs
  | [], _ => rfl
  | x :: xs, k => by
    by_cases h : f x = .none
    · rw [firstF_none h, firstF_none h, below_first xs (k + 1)]
    · rw [firstF_some h, firstF_some h, below_below, List.append_assoc]
theorem firstG_all {g : Nat → D → Option D} : ∀ (xs : List D) (k : Nat), firstG g k xs = none → ∀ (j : Nat) x, xs[j]? = some x → g (k + j) x = none
  | [], _, _, _, _, e => nomatch e
  | x :: xs, k, h, j, y, e => by
    cases z : g k x with
    | some d => rw [firstG_yes z] at h; cases h
    | none =>
      rw [firstG_no z] at h
      cases j with
      | zero => cases e; exact z
      | succ j =>
        have := firstG_all xs (k + 1) h j y e
        rw [show k + (j + 1) = k + 1 + j by omega]
        exact this
def restF (n : Int) (c e f : D) : D := if keepsOk c = false then flt [2] "keeps" else if hoursOk n e = false then flt [3] "hours" else if isFrom 1 6 f = false then flt [4] "wait" else .none
theorem wayF_eq {n : Int} {ks : List D} {a b c e f : D} (h : kindIn ks a = true) : wayF n ks (.tuple [a, b, c, e, f]) = (match partsF ks b with | .none => restF n c e f | d => below [.int 1] d) := by
  simp only [wayF, h]
  rfl
theorem keeps_str {c : D} : (!isStr c || (!PyData.eqv c (S "oldest") && !PyData.eqv c (S "youngest"))) = !keepsOk c := by
  cases c with
  | str z =>
    have sy : ∀ y : Str, (z == y) = (y == z) := fun y => by rw [Bool.eq_iff_iff, beq_iff_eq, beq_iff_eq]; exact eq_comm
    show (!true || (!(z == Str.ofString "oldest") && !(z == Str.ofString "youngest"))) = !((Str.ofString "oldest" == z) || ((Str.ofString "youngest" == z) || false))
    rw [sy, sy]
    cases (Str.ofString "oldest" == z) <;> cases (Str.ofString "youngest" == z) <;> rfl
  | _ => rfl
theorem isi_strB (d : D) : isTy "str" d = some (.bool (isStr d)) := (isi_str d).trans (by cases d <;> rfl)
theorem ok_S {x : String} (h : okD (S x) = true := by decide +kernel) : okD (S x) = true := h
section
variable {P : Program} {w : World} {K : PySem.W.Frag} {mg : Str → Option Value} {base : Heap}
theorem ok_wayW {f : Addr} {fd : FuncData} (F : Fun K "_law_way_word" "_law_way_word" s_law_way_word f fd) (m_range : mg "range" = none) (m_len : mg "len" = none) (m_isinstance : mg "isinstance" = none) (m_str : mg "str" = none) (m_int : mg "int" = none)
    (C__law_row_of : Cl P w K mg base 1 "_law_row_of" ["_law_thing", "_law_few", "_law_many"] (spD 3 sRow)) (C__law_is : Cl P w K mg base 1 "_law_is" ["_law_thing", "_law_low", "_law_high"] (spD 3 sFrom)) (C__law_kind_in : Cl P w K mg base 1 "_law_kind_in" ["_law_kinds_here", "_law_thing"] (spD 2 sKindIn)) (C__law_part_word : Cl P w K mg base 2 "_law_part_word" ["_law_kinds_here", "_law_part_here"] (spD 2 sPartX)) (C__law_rising : Cl P w K mg base 2 "_law_rising" ["_law_thing", "_law_many"] (spD 2 sRisX)) : FnOk P w K mg base CX0 3 f fd ["_law_size", "_law_kinds_here", "_law_way_here"] (spD 3 sWayX) := by
  refine okFn F sc_law_way_word rfl fun cdv A outer s H E hr => ⟨_, (dSs_cons (dS_if (dT_not (dT_val (dE_cl C__law_row_of (hr.mono (by omega)) (by rfl) (dA_cons (dE_var (μ := true) (pv 2)) (dA_cons (dE_c (μ := true) pe_int) (dA_cons (dE_c (μ := true) pe_int) (dA_nil (μ := true))))))))
    (dSs_one (dS_ret (ps_ret (dE_tup (dA_cons (dE_tup (dA_nil (μ := true))) (dA_cons (dE_c (μ := true) pe_str) (dA_nil (μ := true))))))))
    dSs_nil)
  (dSs_cons (dS_if (dT_not (dT_val (dE_cl C__law_kind_in (hr.mono (by omega)) (by rfl) (dA_cons (dE_var (μ := true) (pv 1)) (dA_cons (dE_ix (dE_var (μ := true) (pv 2)) (dE_c (μ := true) pe_int)) (dA_nil (μ := true)))))))
    (dSs_one (dS_ret (ps_ret (dE_tup (dA_cons (dE_tup (dA_cons (dE_c (μ := true) pe_int) (dA_nil (μ := true)))) (dA_cons (dE_c (μ := true) pe_str) (dA_nil (μ := true))))))))
    dSs_nil)
  (dSs_cons (dS_if (dT_not (dT_val (dE_cl C__law_row_of (hr.mono (by omega)) (by rfl) (dA_cons (dE_ix (dE_var (μ := true) (pv 2)) (dE_c (μ := true) pe_int)) (dA_cons (dE_c (μ := true) pe_int) (dA_cons (dE_c (μ := true) pe_int) (dA_nil (μ := true))))))))
    (dSs_one (dS_ret (ps_ret (dE_tup (dA_cons (dE_tup (dA_cons (dE_c (μ := true) pe_int) (dA_nil (μ := true)))) (dA_cons (dE_c (μ := true) pe_str) (dA_nil (μ := true))))))))
    dSs_nil)
  (dSs_cons (dS_for (K := K) (p := (.nm 3)) (ps_for PassesOwn.never rfl (dI_ran1 (by rfl) m_range (dA_cons (dE_callB c_len (by rfl) m_len (by decide +kernel) (dA_cons (dE_ix (dE_var (μ := true) (pv 2)) (dE_c (μ := true) pe_int)) (dA_nil (μ := true)))) (dA_nil (μ := true)))) (pg_name (i := 3) sc_law_way_word.nd rfl (.inl rfl))
    (dSs_cons (dS_asg (K := K) (p := .nm 4) (ps_set (i := 4) sc_law_way_word.nd rfl (.inl rfl) (dE_cl C__law_part_word (hr.mono (by omega)) (by rfl) (dA_cons (dE_var (μ := true) (pv 1)) (dA_cons (dE_ix (dE_ix (dE_var (μ := true) (pv 2)) (dE_c (μ := true) pe_int)) (dE_var (μ := true) (pv 3))) (dA_nil (μ := true)))))))
  (dSs_one (dS_if (dT_cmp o_isnot (dE_var (μ := true) (pv 4)) (dE_c (μ := true) pe_non) (nomark _))
    (dSs_one (dS_ret (ps_ret (dE_tup (dA_cons (dE_op o_add (dE_tup (dA_cons (dE_c (μ := true) pe_int) (dA_cons (dE_var (μ := true) (pv 3)) (dA_nil (μ := true))))) (dE_ix (dE_var (μ := true) (pv 4)) (dE_c (μ := true) pe_int))) (dA_cons (dE_ix (dE_var (μ := true) (pv 4)) (dE_c (μ := true) pe_int)) (dA_nil (μ := true))))))))
    dSs_nil)))))
  (dSs_cons (dS_if (PW.pt (dW_or (dT_not (dT_val (dE_isi (dE_ix (dE_var (μ := true) (pv 2)) (dE_c (μ := true) pe_int)) (pe_bltn (v := .ty "str") (by rfl) m_str (by decide +kernel) rfl) (by rfl) m_isinstance (by decide +kernel)))) (dW_or1 (PW.pt (dW_and (dT_cmp (o_ne hr.units) (dE_ix (dE_var (μ := true) (pv 2)) (dE_c (μ := true) pe_int)) (dE_c (μ := true) pe_str) (nomark _)) (dW_and1 (dT_cmp (o_ne hr.units) (dE_ix (dE_var (μ := true) (pv 2)) (dE_c (μ := true) pe_int)) (dE_c (μ := true) pe_str) (nomark _))))))))
    (dSs_one (dS_ret (ps_ret (dE_tup (dA_cons (dE_tup (dA_cons (dE_c (μ := true) pe_int) (dA_nil (μ := true)))) (dA_cons (dE_c (μ := true) pe_str) (dA_nil (μ := true))))))))
    dSs_nil)
  (dSs_cons (dS_if (dT_not (dT_val (dE_cl C__law_rising (hr.mono (by omega)) (by rfl) (dA_cons (dE_ix (dE_var (μ := true) (pv 2)) (dE_c (μ := true) pe_int)) (dA_cons (dE_var (μ := true) (pv 0)) (dA_nil (μ := true)))))))
    (dSs_one (dS_ret (ps_ret (dE_tup (dA_cons (dE_tup (dA_cons (dE_c (μ := true) pe_int) (dA_nil (μ := true)))) (dA_cons (dE_c (μ := true) pe_str) (dA_nil (μ := true))))))))
    dSs_nil)
  (dSs_one (dS_ret (ps_ret (dE_ix (dE_lst (dA_cons (dE_tup (dA_cons (dE_tup (dA_cons (dE_c (μ := true) pe_int) (dA_nil (μ := true)))) (dA_cons (dE_c (μ := true) pe_str) (dA_nil (μ := true))))) (dA_cons (dE_c (μ := true) pe_non) (dA_nil (μ := true))))) (dE_callTy c_int (by rfl) m_int (by decide +kernel) (dA_cons (dE_cl C__law_is (hr.mono (by omega)) (by rfl) (dA_cons (dE_ix (dE_var (μ := true) (pv 2)) (dE_c (μ := true) pe_int)) (dA_cons (dE_c (μ := true) pe_int) (dA_cons (dE_c (μ := true) pe_int) (dA_nil (μ := true)))))) (dA_nil (μ := true)))))))))))))), fun ds d l e => ?_⟩
  match ds, e with
  | [.int n, .tuple ks, x], e =>
    obtain ⟨⟨ok, n1⟩, rfl⟩ := iteS e
    obtain ⟨nk, ok1, gx⟩ := and3 ok
    refine ⟨.rt (wayF n ks x), ?_, rfl⟩
    refine (ev_guard (b := !isRow 5 5 x) rfl rfl).trans ?_
    cases h0 : isRow 5 5 x with
    | false =>
      have : wayF n ks x = flt [] "way" := by
        unfold wayF
        split
        · cases h0
        · rfl
      rw [this]
      rfl
    | true =>
      obtain ⟨a, b, c, e', f', rfl⟩ := isRow_five h0
      have oa := (gd.parts (gd.tup gx a (by simp))).1
      have gb := gd.tup gx b (by simp)
      have oc := (gd.parts (gd.tup gx c (by simp))).1
      have ge := gd.tup gx e' (by simp)
      have ek : sKindIn [.tuple ks, a] = some (.bool (kindIn ks a)) := (if_pos (by rw [ok1, oa]; rfl)).trans (by rw [kindIn_str nk])
      refine (ev_guard (b := !kindIn ks a) (ev_not (ev_oB (ev_call rfl rfl ek))) rfl).trans ?_
      cases h1 : kindIn ks a with
      | false => simp only [wayF, h1]; rfl
      | true =>
        refine (ev_guard (b := !isRow 1 3 b) rfl rfl).trans ?_
        rw [wayF_eq h1]
        cases h2 : isRow 1 3 b with
        | false =>
          have : partsF ks b = flt [] "parts" := by
            unfold partsF
            split
            · rw [h2]; rfl
            · rfl
          rw [this]
          rfl
        | true =>
          obtain ⟨xs, rfl⟩ := isRow_tup h2
          have ep : partsF ks (.tuple xs) = firstF [] (partF ks) 0 xs := by simp only [partsF, h2]; rfl
          have xl : xs.length ≤ 3 := by
            simp [isRow] at h2
            omega
          have fin : outG (.rt (restF n c e' f')) (firstG (gF [.int 1] (partF ks)) 0 xs) = .rt (match partsF ks (.tuple xs) with | .none => restF n c e' f' | d => below [.int 1] d) := by
            rw [ep]
            have e1 := firstG_F (pre := [.int 1]) (f := partF ks) xs 0
            have e2 := below_first (p := [.int 1]) (q := []) (f := partF ks) xs 0
            rw [List.append_nil] at e2
            have hN : ∀ (ys : List D) (k : Nat) d, firstG (gF [.int 1] (partF ks)) k ys = some d → d ≠ .none := by
              intro ys
              induction ys with
              | nil => intro k d h; cases h
              | cons y ys ih =>
                intro k d h
                by_cases z : partF ks y = .none
                · rw [firstG_no (gF_none z)] at h; exact ih _ _ h
                · rw [firstG_yes (gF_some z)] at h
                  cases h
                  exact below_ne z
            cases hg : firstG (gF [.int 1] (partF ks)) 0 xs with
            | none =>
              rw [hg] at e1
              have e1 : PyData.none = firstF [.int 1] (partF ks) 0 xs := e1
              have z : firstF [] (partF ks) 0 xs = .none := by
                by_cases z : firstF [] (partF ks) 0 xs = .none
                · exact z
                · exact ((below_ne z) (e2.trans e1.symm)).elim
              rw [z]
              rfl
            | some d =>
              rw [hg] at e1
              have e1 : d = firstF [.int 1] (partF ks) 0 xs := e1
              have dn := hN _ _ _ hg
              have z : firstF [] (partF ks) 0 xs ≠ .none := fun z => by
                rw [z] at e2
                exact dn (e1.trans e2.symm)
              show Out.rt d = _
              rw [e1, ← e2]
              split
              · rename_i q; exact (z q).elim
              · rfl
          refine Eq.trans ?_ (congrArg some fin)
          refine ev_rangeG (fun ρ => ∃ x y, ρ = [some (.dat (.int n)), some (.dat (.tuple ks)), some (.dat (.tuple [a, .tuple xs, c, e', f'])), x, y]) (.rt (restF n c e' f')) (ev_itG (ds := [.int xs.length]) rfl ((ran1_ok (j := xs.length) (by omega) (by omega)).trans (by rw [Int.toNat_natCast]))) ⟨_, _, rfl⟩ (fun k x ρ ex gone i => ?_) (fun ρ i _ => ?_)
          · obtain ⟨y1, y2, rfl⟩ := i
            refine ⟨[some (.dat (.int n)), some (.dat (.tuple ks)), some (.dat (.tuple [a, .tuple xs, c, e', f'])), some (.dat (.int k)), y2], rfl, ?_⟩
            have gxx := gd.tup gb x (List.mem_of_getElem? ex)
            have ef : sPartX [.tuple ks, x] = some (partF ks x) := if_pos (by rw [nk, ok1, gxx]; rfl)
            have arg : (aCons (eVar 1) (aCons (e2 ixD (e2 ixD (eVar 2) (eC (.int 1))) (eVar 3)) aNil)) [some (.dat (.int n)), some (.dat (.tuple ks)), some (.dat (.tuple [a, .tuple xs, c, e', f'])), some (.dat (.int k)), y2] = some [.tuple ks, x] := by
              exact ev_cons rfl (ev_cons (ev_e2 (a := .tuple xs) (b := .int k) rfl rfl (atI_nat ex)) rfl)
            by_cases hn : partF ks x = .none
            · exact .inl ⟨gF_none hn, _, ⟨_, _, rfl⟩, (ev_asg (d := .none) (ρ' := [some (.dat (.int n)), some (.dat (.tuple ks)), some (.dat (.tuple [a, .tuple xs, c, e', f'])), some (.dat (.int k)), some (.dat .none)]) (ev_call arg rfl (ef.trans (by rw [hn]))) rfl).trans rfl⟩
            · refine .inr ⟨_, gF_some hn, ?_⟩
              rcases partF_N ks x with e | ⟨i, w, e, l⟩
              · exact (hn e).elim
              · refine (ev_asg (d := .tuple [.tuple i, w]) (ρ' := [some (.dat (.int n)), some (.dat (.tuple ks)), some (.dat (.tuple [a, .tuple xs, c, e', f'])), some (.dat (.int k)), some (.dat (.tuple [.tuple i, w]))]) (ev_call arg rfl (ef.trans (by rw [e]))) rfl).trans ?_
                refine (ev_ifR (b := true) rfl).trans (ev_ret ?_)
                show ((addD (.tuple [.int 1, .int k]) (.tuple i)).bind _).bind _ = _
                rw [add_tup (a := [.int 1, .int k]) (b := i) (show 2 + i.length ≤ sizeLine from sz (by omega)), e]
                rfl
          · obtain ⟨y1, y2, rfl⟩ := i
            refine (ev_guard (b := !keepsOk c) ?_ rfl).trans ?_
            · refine (ev_oOr (b := !isStr c) (ev_not (ev_oB (isi_strB c)))).trans ?_
              rw [← keeps_str]
              cases hs : isStr c with
              | false => rfl
              | true =>
                refine (ev_oAnd (b := !PyData.eqv c (S "oldest")) (ev_oB (ne_ok oc ok_S))).trans ?_
                cases ho : PyData.eqv c (S "oldest") with
                | true => rfl
                | false => exact (ev_oB (b := !PyData.eqv c (S "youngest")) (ne_ok oc ok_S)).trans rfl
            unfold restF
            cases h3 : keepsOk c with
            | false => rfl
            | true =>
              have er : sRisX [e', .int n] = some (.bool (hoursOk n e')) := if_pos ⟨ge, n1⟩
              refine (ev_guard (b := !hoursOk n e') (ev_not (ev_oB (ev_call rfl rfl er))) rfl).trans ?_
              cases h4 : hoursOk n e' with
              | false => rfl
              | true =>
                refine ev_ret ?_
                cases h5 : isFrom 1 6 f' <;> exact (ev_e2 (a := .list [flt [4] "wait", .none]) (b := .int (if isFrom 1 6 f' = true then 1 else 0)) rfl rfl (by rw [h5]; rfl)).trans rfl
end
end Dl
namespace Dl
open PySem PySem.Spec PyProof.Rows L2 Rt
/-- a row gone through by places: what it tells, or what follows -/
theorem gF_out {pre : List D} {f : D → D} {xs : List D} {o : D} : outG (.rt o) (firstG (gF pre f) 0 xs) = .rt (orF (firstF pre f 0 xs) o) := by
  have hN : ∀ (ys : List D) (k : Nat) d, firstG (gF pre f) k ys = some d → d ≠ .none := by
    intro ys
    induction ys with
    | nil => intro k d h; cases h
    | cons y ys ih =>
      intro k d h
      by_cases z : f y = .none
      · rw [firstG_no (gF_none z)] at h; exact ih _ _ h
      · rw [firstG_yes (gF_some z)] at h
        cases h
        exact below_ne z
  rw [← firstG_F]
  cases hg : firstG (gF pre f) 0 xs with
  | none => rfl
  | some d =>
    have dn := hN _ _ _ hg
    show Out.rt d = .rt (orF d o)
    unfold orF
    split
    · exact (dn rfl).elim
    · rfl
theorem gK_nms {ds : List D} (h : firstG (gK ds) 0 ds = none) : nms ds = true := by
  unfold nms
  rw [List.all_eq_true]
  intro x hx
  obtain ⟨k, hk⟩ := List.getElem?_of_mem hx
  have := firstG_all ds 0 h k x hk
  unfold gK at this
  split at this
  · cases this
  · rename_i hb
    unfold badK at hb
    cases z : isName x with
    | true => rfl
    | false => rw [z] at hb; simp at hb
def sNameX : List D → Option D := fun ds => match ds with | [d] => if okD d = true then some (.bool (isName d)) else none | _ => none
section
variable {P : Program} {w : World} {K : PySem.W.Frag} {mg : Str → Option Value} {base : Heap}
theorem ok_worldW {f : Addr} {fd : FuncData} (F : Fun K "_law_world_word" "_law_world_word" s_law_world_word f fd) (m_range : mg "range" = none) (m_len : mg "len" = none)
    (C__law_row_of : Cl P w K mg base 1 "_law_row_of" ["_law_thing", "_law_few", "_law_many"] (spD 3 sRow)) (C__law_is : Cl P w K mg base 1 "_law_is" ["_law_thing", "_law_low", "_law_high"] (spD 3 sFrom)) (C__law_name : Cl P w K mg base 1 "_law_name" ["_law_thing"] (spD 1 sNameX)) (C__law_source_word : Cl P w K mg base 2 "_law_source_word" ["_law_size", "_law_kinds_here", "_law_source_here"] (spD 3 sSrcX)) (C__law_way_word : Cl P w K mg base 3 "_law_way_word" ["_law_size", "_law_kinds_here", "_law_way_here"] (spD 3 sWayX)) : FnOk P w K mg base CX0 4 f fd ["_law_thing"] (spD 1 sWorldX) := by
  refine okFn F sc_law_world_word rfl fun cdv A outer s H E hr => ⟨_, (dSs_cons (dS_if (dT_not (dT_val (dE_cl C__law_row_of (hr.mono (by omega)) (by rfl) (dA_cons (dE_var (μ := true) (pv 0)) (dA_cons (dE_c (μ := true) pe_int) (dA_cons (dE_c (μ := true) pe_int) (dA_nil (μ := true))))))))
    (dSs_one (dS_ret (ps_ret (dE_tup (dA_cons (dE_tup (dA_nil (μ := true))) (dA_cons (dE_c (μ := true) pe_str) (dA_nil (μ := true))))))))
    dSs_nil)
  (dSs_cons (dS_if (dT_not (dT_val (dE_cl C__law_is (hr.mono (by omega)) (by rfl) (dA_cons (dE_ix (dE_var (μ := true) (pv 0)) (dE_c (μ := true) pe_int)) (dA_cons (dE_c (μ := true) pe_int) (dA_cons (dE_c (μ := true) pe_int) (dA_nil (μ := true))))))))
    (dSs_one (dS_ret (ps_ret (dE_tup (dA_cons (dE_tup (dA_cons (dE_c (μ := true) pe_int) (dA_nil (μ := true)))) (dA_cons (dE_c (μ := true) pe_str) (dA_nil (μ := true))))))))
    dSs_nil)
  (dSs_cons (dS_if (dT_not (dT_val (dE_cl C__law_row_of (hr.mono (by omega)) (by rfl) (dA_cons (dE_ix (dE_var (μ := true) (pv 0)) (dE_c (μ := true) pe_int)) (dA_cons (dE_c (μ := true) pe_int) (dA_cons (dE_c (μ := true) pe_int) (dA_nil (μ := true))))))))
    (dSs_one (dS_ret (ps_ret (dE_tup (dA_cons (dE_tup (dA_cons (dE_c (μ := true) pe_int) (dA_nil (μ := true)))) (dA_cons (dE_c (μ := true) pe_str) (dA_nil (μ := true))))))))
    dSs_nil)
  (dSs_cons (dS_for (K := K) (p := (.nm 1)) (ps_for PassesOwn.never rfl (dI_ran1 (by rfl) m_range (dA_cons (dE_callB c_len (by rfl) m_len (by decide +kernel) (dA_cons (dE_ix (dE_var (μ := true) (pv 0)) (dE_c (μ := true) pe_int)) (dA_nil (μ := true)))) (dA_nil (μ := true)))) (pg_name (i := 1) sc_law_world_word.nd rfl (.inl rfl))
    (dSs_one (dS_if (PW.pt (dW_or (dT_not (dT_val (dE_cl C__law_name (hr.mono (by omega)) (by rfl) (dA_cons (dE_ix (dE_ix (dE_var (μ := true) (pv 0)) (dE_c (μ := true) pe_int)) (dE_var (μ := true) (pv 1))) (dA_nil (μ := true)))))) (dW_or1 (PW.pt (dW_and (dT_cmp o_gt (dE_var (μ := true) (pv 1)) (dE_c (μ := true) pe_int) (nomark _)) (dW_and1 (dT_cmp o_ge (dE_ix (dE_ix (dE_var (μ := true) (pv 0)) (dE_c (μ := true) pe_int)) (dE_op o_sub (dE_var (μ := true) (pv 1)) (dE_c (μ := true) pe_int))) (dE_ix (dE_ix (dE_var (μ := true) (pv 0)) (dE_c (μ := true) pe_int)) (dE_var (μ := true) (pv 1))) (nomark _))))))))
    (dSs_one (dS_ret (ps_ret (dE_tup (dA_cons (dE_tup (dA_cons (dE_c (μ := true) pe_int) (dA_cons (dE_var (μ := true) (pv 1)) (dA_nil (μ := true))))) (dA_cons (dE_c (μ := true) pe_str) (dA_nil (μ := true))))))))
    dSs_nil))))
  (dSs_cons (dS_if (dT_not (dT_val (dE_cl C__law_row_of (hr.mono (by omega)) (by rfl) (dA_cons (dE_ix (dE_var (μ := true) (pv 0)) (dE_c (μ := true) pe_int)) (dA_cons (dE_c (μ := true) pe_int) (dA_cons (dE_c (μ := true) pe_int) (dA_nil (μ := true))))))))
    (dSs_one (dS_ret (ps_ret (dE_tup (dA_cons (dE_tup (dA_cons (dE_c (μ := true) pe_int) (dA_nil (μ := true)))) (dA_cons (dE_c (μ := true) pe_str) (dA_nil (μ := true))))))))
    dSs_nil)
  (dSs_cons (dS_for (K := K) (p := (.nm 1)) (ps_for PassesOwn.never rfl (dI_ran1 (by rfl) m_range (dA_cons (dE_callB c_len (by rfl) m_len (by decide +kernel) (dA_cons (dE_ix (dE_var (μ := true) (pv 0)) (dE_c (μ := true) pe_int)) (dA_nil (μ := true)))) (dA_nil (μ := true)))) (pg_name (i := 1) sc_law_world_word.nd rfl (.inl rfl))
    (dSs_cons (dS_asg (K := K) (p := .nm 2) (ps_set (i := 2) sc_law_world_word.nd rfl (.inl rfl) (dE_cl C__law_source_word (hr.mono (by omega)) (by rfl) (dA_cons (dE_ix (dE_var (μ := true) (pv 0)) (dE_c (μ := true) pe_int)) (dA_cons (dE_ix (dE_var (μ := true) (pv 0)) (dE_c (μ := true) pe_int)) (dA_cons (dE_ix (dE_ix (dE_var (μ := true) (pv 0)) (dE_c (μ := true) pe_int)) (dE_var (μ := true) (pv 1))) (dA_nil (μ := true))))))))
  (dSs_one (dS_if (dT_cmp o_isnot (dE_var (μ := true) (pv 2)) (dE_c (μ := true) pe_non) (nomark _))
    (dSs_one (dS_ret (ps_ret (dE_tup (dA_cons (dE_op o_add (dE_tup (dA_cons (dE_c (μ := true) pe_int) (dA_cons (dE_var (μ := true) (pv 1)) (dA_nil (μ := true))))) (dE_ix (dE_var (μ := true) (pv 2)) (dE_c (μ := true) pe_int))) (dA_cons (dE_ix (dE_var (μ := true) (pv 2)) (dE_c (μ := true) pe_int)) (dA_nil (μ := true))))))))
    dSs_nil)))))
  (dSs_cons (dS_if (dT_not (dT_val (dE_cl C__law_row_of (hr.mono (by omega)) (by rfl) (dA_cons (dE_ix (dE_var (μ := true) (pv 0)) (dE_c (μ := true) pe_int)) (dA_cons (dE_c (μ := true) pe_int) (dA_cons (dE_c (μ := true) pe_int) (dA_nil (μ := true))))))))
    (dSs_one (dS_ret (ps_ret (dE_tup (dA_cons (dE_tup (dA_cons (dE_c (μ := true) pe_int) (dA_nil (μ := true)))) (dA_cons (dE_c (μ := true) pe_str) (dA_nil (μ := true))))))))
    dSs_nil)
  (dSs_cons (dS_for (K := K) (p := (.nm 1)) (ps_for PassesOwn.never rfl (dI_ran1 (by rfl) m_range (dA_cons (dE_callB c_len (by rfl) m_len (by decide +kernel) (dA_cons (dE_ix (dE_var (μ := true) (pv 0)) (dE_c (μ := true) pe_int)) (dA_nil (μ := true)))) (dA_nil (μ := true)))) (pg_name (i := 1) sc_law_world_word.nd rfl (.inl rfl))
    (dSs_cons (dS_asg (K := K) (p := .nm 2) (ps_set (i := 2) sc_law_world_word.nd rfl (.inl rfl) (dE_cl C__law_way_word (hr.mono (by omega)) (by rfl) (dA_cons (dE_ix (dE_var (μ := true) (pv 0)) (dE_c (μ := true) pe_int)) (dA_cons (dE_ix (dE_var (μ := true) (pv 0)) (dE_c (μ := true) pe_int)) (dA_cons (dE_ix (dE_ix (dE_var (μ := true) (pv 0)) (dE_c (μ := true) pe_int)) (dE_var (μ := true) (pv 1))) (dA_nil (μ := true))))))))
  (dSs_one (dS_if (dT_cmp o_isnot (dE_var (μ := true) (pv 2)) (dE_c (μ := true) pe_non) (nomark _))
    (dSs_one (dS_ret (ps_ret (dE_tup (dA_cons (dE_op o_add (dE_tup (dA_cons (dE_c (μ := true) pe_int) (dA_cons (dE_var (μ := true) (pv 1)) (dA_nil (μ := true))))) (dE_ix (dE_var (μ := true) (pv 2)) (dE_c (μ := true) pe_int))) (dA_cons (dE_ix (dE_var (μ := true) (pv 2)) (dE_c (μ := true) pe_int)) (dA_nil (μ := true))))))))
    dSs_nil)))))
  (dSs_one (dS_ret (ps_ret (dE_c (μ := true) pe_non)))))))))))), fun ds d l e => ?_⟩
  match ds, e with
  | [x], e =>
    obtain ⟨gx, rfl⟩ := iteS e
    refine ⟨.rt (worldF x), ?_, rfl⟩
    refine (ev_guard (b := !isRow 4 4 x) rfl rfl).trans ?_
    cases h0 : isRow 4 4 x with
    | false =>
      have : worldF x = flt [] "world" := by
        unfold worldF
        split
        · cases h0
        · cases h0
        · rfl
      rw [this]
      rfl
    | true =>
      obtain ⟨a, b, c, e', rfl⟩ := isRow_four h0
      have gb := gd.tup gx b (by simp)
      have gc := gd.tup gx c (by simp)
      have ge := gd.tup gx e' (by simp)
      refine (ev_guard (b := !isFrom 1 6 a) rfl rfl).trans ?_
      cases h1 : isFrom 1 6 a with
      | false =>
        have : worldF (.tuple [a, b, c, e']) = flt [0] "round" := by
          unfold worldF
          split
          · rename_i e1; cases e1; rw [h1]; rfl
          · rename_i e1; cases e1; rw [h1]; rfl
          · rename_i e1; exact (e1 _ _ _ _ rfl).elim
        rw [this]
        rfl
      | true =>
        obtain ⟨n, rfl⟩ := isFrom_int h1
        have n1 : 1 ≤ n := by
          simp [isFrom] at h1
          omega
        refine (ev_guard (b := !isRow 1 4 b) rfl rfl).trans ?_
        cases h2 : isRow 1 4 b with
        | false =>
          have : worldF (.tuple [.int n, b, c, e']) = flt [1] "kinds" := by
            cases b <;> (simp only [worldF, h1, kindsF, h2]; rfl)
          rw [this]
          rfl
        | true =>
          obtain ⟨ks, rfl⟩ := isRow_tup h2
          have kl : ks.length ≤ 4 := by
            simp [isRow] at h2
            omega
          have ok1 := (gd.parts gb).1
          have ek : kindsF (.tuple ks) = orN (firstG (gK ks) 0 ks) := by simp only [kindsF, h2]; rfl
          have ew : worldF (.tuple [.int n, .tuple ks, c, e']) = orF (kindsF (.tuple ks)) (orF (srcsF n ks c) (waysF n ks e')) := by simp only [worldF, h1]; rfl
          have fin : outG (.rt (orF (srcsF n ks c) (waysF n ks e'))) (firstG (gK ks) 0 ks) = .rt (worldF (.tuple [.int n, .tuple ks, c, e'])) := by
            rw [ew, ek]
            cases hg : firstG (gK ks) 0 ks with
            | none => rfl
            | some d =>
              have : ∀ (ys : List D) (k : Nat) d, firstG (gK ks) k ys = some d → d ≠ .none := by
                intro ys
                induction ys with
                | nil => intro k d h; cases h
                | cons y ys ih =>
                  intro k d h
                  cases z : gK ks k y with
                  | none => rw [firstG_no z] at h; exact ih _ _ h
                  | some d' =>
                    rw [firstG_yes z] at h
                    cases h
                    unfold gK at z
                    split at z
                    · cases z; intro q; cases q
                    · cases z
              have dn := this _ _ _ hg
              show Out.rt d = .rt (orF d _)
              unfold orF
              split
              · exact (dn rfl).elim
              · rfl
          refine Eq.trans ?_ (congrArg some fin)
          refine ev_rangeG (fun ρ => ∃ y, ρ = [some (.dat (.tuple [.int n, .tuple ks, c, e'])), y, none]) _ (ev_itG (ds := [.int ks.length]) rfl ((ran1_ok (j := ks.length) (by omega) (by omega)).trans (by rw [Int.toNat_natCast]))) ⟨_, rfl⟩ (fun k x ρ ex gone i => ?_) (fun ρ i hnone => ?_)
          · obtain ⟨y, rfl⟩ := i
            refine ⟨[some (.dat (.tuple [.int n, .tuple ks, c, e'])), some (.dat (.int k)), none], rfl, ?_⟩
            have ox := (gd.parts (gd.tup gb x (List.mem_of_getElem? ex))).1
            have tst : oOr (oNot (oB (eCall (gN 1 sNameX) (aCons (e2 ixD (e2 ixD (eVar 0) (eC (.int 1))) (eVar 1)) aNil)))) (oAnd (oB (e2 gtD (eVar 1) (eC (.int 0)))) (oB (e2 geD (e2 ixD (e2 ixD (eVar 0) (eC (.int 1))) (e2 subD (eVar 1) (eC (.int 1)))) (e2 ixD (e2 ixD (eVar 0) (eC (.int 1))) (eVar 1))))) [some (.dat (.tuple [.int n, .tuple ks, c, e'])), some (.dat (.int k)), none] = some (badK ks k x) := by
              have ix1 : e2 ixD (e2 ixD (eVar 0) (eC (.int 1))) (eVar 1) [some (.dat (.tuple [.int n, .tuple ks, c, e'])), some (.dat (.int k)), none] = some x := ev_e2 (a := .tuple ks) (b := .int k) rfl rfl (atI_nat ex)
              have en : sNameX [x] = some (.bool (isName x)) := if_pos ox
              refine (ev_oOr (b := !isName x) (ev_not (ev_oB (ev_call (ev_cons ix1 rfl) rfl en)))).trans ?_
              unfold badK
              cases hx : isName x with
              | false => rfl
              | true =>
                refine (ev_oAnd (b := decide ((k : Int) > 0)) rfl).trans ?_
                by_cases hk : 0 < k
                · have hk' : decide ((k : Int) > 0) = true := decide_eq_true (by omega)
                  rw [hk']
                  have hk1 : k - 1 < ks.length := by
                    have := (List.getElem?_eq_some_iff.mp ex).1
                    omega
                  obtain ⟨y, hy⟩ : ∃ y, ks[k - 1]? = some y := ⟨_, List.getElem?_eq_getElem hk1⟩
                  have gy := gone (k - 1) y (by omega) hy
                  unfold gK at gy
                  have by1 : badK ks (k - 1) y = false := by
                    cases z : badK ks (k - 1) y with
                    | false => rfl
                    | true => rw [z] at gy; cases gy
                  have ny : isName y = true := by
                    unfold badK at by1
                    cases z : isName y with
                    | true => rfl
                    | false => rw [z] at by1; cases by1
                  obtain ⟨zx, rfl⟩ := isName_str hx
                  obtain ⟨zy, rfl⟩ := isName_str ny
                  have ai : ixD (.tuple ks) (.int ((k : Int) - 1)) = some (.str zy) := by
                    rw [show ((k : Int) - 1) = ((k - 1 : Nat) : Int) by omega]
                    exact atI_nat hy
                  refine (ev_oB (ev_e2 (ev_e2 (a := .tuple ks) (b := .int ((k : Int) - 1)) rfl rfl ai) ix1 rfl)).trans ?_
                  rw [hy]
                  simp [ltS, hk]
                · have hk' : decide ((k : Int) > 0) = false := decide_eq_false (by omega)
                  rw [hk']
                  simp [hk]
            unfold gK
            cases hb : badK ks k x with
            | true => exact .inr ⟨_, if_pos rfl, (ev_ifR (tst.trans (by rw [hb]))).trans rfl⟩
            | false => exact .inl ⟨if_neg (by decide), _, ⟨_, rfl⟩, (ev_ifR (tst.trans (by rw [hb]))).trans rfl⟩
          · obtain ⟨y, rfl⟩ := i
            have nk := gK_nms hnone
            refine (ev_guard (b := !isRow 0 6 c) rfl rfl).trans ?_
            cases h3 : isRow 0 6 c with
            | false =>
              have : srcsF n ks c = flt [2] "sources" := by
                unfold srcsF
                split
                · rw [h3]; rfl
                · rfl
              rw [this]
              rfl
            | true =>
              obtain ⟨xs, rfl⟩ := isRow_tup h3
              have xl : xs.length ≤ 6 := by
                simp [isRow] at h3
                omega
              have ep : srcsF n ks (.tuple xs) = firstF [.int 2] (srcF n ks) 0 xs := by simp only [srcsF, h3]; rfl
              rw [ep, ← gF_out]
              refine ev_rangeG (fun ρ => ∃ y z, ρ = [some (.dat (.tuple [.int n, .tuple ks, .tuple xs, e'])), y, z]) _ (ev_itG (ds := [.int xs.length]) rfl ((ran1_ok (j := xs.length) (by omega) (by omega)).trans (by rw [Int.toNat_natCast]))) ⟨_, _, rfl⟩ (fun k x ρ ex gone i => ?_) (fun ρ i _ => ?_)
              · obtain ⟨y, z, rfl⟩ := i
                refine ⟨[some (.dat (.tuple [.int n, .tuple ks, .tuple xs, e'])), some (.dat (.int k)), z], rfl, ?_⟩
                have gxx := gd.tup gc x (List.mem_of_getElem? ex)
                have ef : sSrcX [.int n, .tuple ks, x] = some (srcF n ks x) := if_pos (by rw [nk, ok1, gxx]; rfl)
                have arg : (aCons (e2 ixD (eVar 0) (eC (.int 0))) (aCons (e2 ixD (eVar 0) (eC (.int 1))) (aCons (e2 ixD (e2 ixD (eVar 0) (eC (.int 2))) (eVar 1)) aNil))) [some (.dat (.tuple [.int n, .tuple ks, .tuple xs, e'])), some (.dat (.int k)), z] = some [.int n, .tuple ks, x] := ev_cons rfl (ev_cons rfl (ev_cons (ev_e2 (a := .tuple xs) (b := .int k) rfl rfl (atI_nat ex)) rfl))
                by_cases hn : srcF n ks x = .none
                · exact .inl ⟨gF_none hn, _, ⟨_, _, rfl⟩, (ev_asg (d := .none) (ρ' := [some (.dat (.tuple [.int n, .tuple ks, .tuple xs, e'])), some (.dat (.int k)), some (.dat .none)]) (ev_call arg rfl (ef.trans (by rw [hn]))) rfl).trans rfl⟩
                · refine .inr ⟨_, gF_some hn, ?_⟩
                  rcases srcF_N n ks x with e | ⟨i, w, e, l⟩
                  · exact (hn e).elim
                  · refine (ev_asg (d := .tuple [.tuple i, w]) (ρ' := [some (.dat (.tuple [.int n, .tuple ks, .tuple xs, e'])), some (.dat (.int k)), some (.dat (.tuple [.tuple i, w]))]) (ev_call arg rfl (ef.trans (by rw [e]))) rfl).trans ?_
                    refine (ev_ifR (b := true) rfl).trans (ev_ret ?_)
                    show ((addD (.tuple [.int 2, .int k]) (.tuple i)).bind _).bind _ = _
                    rw [add_tup (a := [.int 2, .int k]) (b := i) (show 2 + i.length ≤ sizeLine from sz (by omega)), e]
                    rfl
              · obtain ⟨y, z, rfl⟩ := i
                refine (ev_guard (b := !isRow 0 8 e') rfl rfl).trans ?_
                cases h4 : isRow 0 8 e' with
                | false =>
                  have : waysF n ks e' = flt [3] "ways" := by
                    unfold waysF
                    split
                    · rw [h4]; rfl
                    · rfl
                  rw [this]
                  rfl
                | true =>
                  obtain ⟨us, rfl⟩ := isRow_tup h4
                  have ul : us.length ≤ 8 := by
                    simp [isRow] at h4
                    omega
                  have ep : waysF n ks (.tuple us) = firstF [.int 3] (wayF n ks) 0 us := by simp only [waysF, h4]; rfl
                  have e9 : firstF [.int 3] (wayF n ks) 0 us = orF (firstF [.int 3] (wayF n ks) 0 us) .none := by
                    unfold orF
                    split
                    · rename_i q; exact q
                    · rfl
                  rw [ep, e9, ← gF_out]
                  refine ev_rangeG (fun ρ => ∃ y z, ρ = [some (.dat (.tuple [.int n, .tuple ks, .tuple xs, .tuple us])), y, z]) _ (ev_itG (ds := [.int us.length]) rfl ((ran1_ok (j := us.length) (by omega) (by omega)).trans (by rw [Int.toNat_natCast]))) ⟨_, _, rfl⟩ (fun k x ρ ex gone i => ?_) (fun ρ i _ => by obtain ⟨y, z, rfl⟩ := i; rfl)
                  obtain ⟨y, z, rfl⟩ := i
                  refine ⟨[some (.dat (.tuple [.int n, .tuple ks, .tuple xs, .tuple us])), some (.dat (.int k)), z], rfl, ?_⟩
                  have gxx := gd.tup ge x (List.mem_of_getElem? ex)
                  have ef : sWayX [.int n, .tuple ks, x] = some (wayF n ks x) := if_pos ⟨by rw [nk, ok1, gxx]; rfl, n1⟩
                  have arg : (aCons (e2 ixD (eVar 0) (eC (.int 0))) (aCons (e2 ixD (eVar 0) (eC (.int 1))) (aCons (e2 ixD (e2 ixD (eVar 0) (eC (.int 3))) (eVar 1)) aNil))) [some (.dat (.tuple [.int n, .tuple ks, .tuple xs, .tuple us])), some (.dat (.int k)), z] = some [.int n, .tuple ks, x] := ev_cons rfl (ev_cons rfl (ev_cons (ev_e2 (a := .tuple us) (b := .int k) rfl rfl (atI_nat ex)) rfl))
                  by_cases hn : wayF n ks x = .none
                  · exact .inl ⟨gF_none hn, _, ⟨_, _, rfl⟩, (ev_asg (d := .none) (ρ' := [some (.dat (.tuple [.int n, .tuple ks, .tuple xs, .tuple us])), some (.dat (.int k)), some (.dat .none)]) (ev_call arg rfl (ef.trans (by rw [hn]))) rfl).trans rfl⟩
                  · refine .inr ⟨_, gF_some hn, ?_⟩
                    rcases wayF_N n ks x with e | ⟨i, w, e, l⟩
                    · exact (hn e).elim
                    · refine (ev_asg (d := .tuple [.tuple i, w]) (ρ' := [some (.dat (.tuple [.int n, .tuple ks, .tuple xs, .tuple us])), some (.dat (.int k)), some (.dat (.tuple [.tuple i, w]))]) (ev_call arg rfl (ef.trans (by rw [e]))) rfl).trans ?_
                      refine (ev_ifR (b := true) rfl).trans (ev_ret ?_)
                      show ((addD (.tuple [.int 3, .int k]) (.tuple i)).bind _).bind _ = _
                      rw [add_tup (a := [.int 3, .int k]) (b := i) (show 2 + i.length ≤ sizeLine from sz (by omega)), e]
                      rfl
end
end Dl
namespace Dl
open PySem PySem.Spec PyProof.Rows L2 Rt
noncomputable def sAl (dp : D → Prop) : List D → Option D := fun ds => match ds with
  | [a, b] => @ite _ (a = b ∧ dp a) (Classical.propDecidable _) (some (.bool true)) none
  | _ => none
/-- data of so many tuples within one another -/
def dpA : Nat → D → Prop
  | 0, _ => False
  | n + 1, .tuple ds => ds.length ≤ 1000 ∧ ∀ d ∈ ds, dpA n d
  | n + 1, .list _ => False
  | n + 1, .dict _ => False
  | n + 1, d => okD d = true
theorem sAl_ok {dp : D → Prop} {a : D} (h : dp a) : sAl dp [a, a] = some (.bool true) := by
  exact @if_pos _ (Classical.propDecidable _) ⟨rfl, h⟩ _ _ _
theorem eqv_refl {d : D} (h : okD d = true) : PyData.eqv d d = true := SeqAt.eqv_refl d (Bool.and_eq_true_iff.mp (okD.parts h).2).1
theorem isiV {T : String} {i : Nat} {ρ : Rho} {d b : D} (h : eVar i ρ = some d) (ht : isTy T d = some b) : e1 (isTy T) (eVar i) ρ = some b := by
  unfold e1
  rw [h]
  exact ht
theorem ev_oOrF {f g : Rho → Option Bool} {ρ : Rho} {b : Bool} (h1 : f ρ = some false) (h2 : g ρ = some b) : oOr f g ρ = some b := (ev_oOr h1).trans h2
theorem ev_oOrT {f g : Rho → Option Bool} {ρ : Rho} (h1 : f ρ = some true) : oOr f g ρ = some true := ev_oOr h1
theorem zp_self (xs : List D) : zpGo xs xs = (xs.map fun x => (x, x)).map fun x => .tuple [x.1, x.2] := by
  rw [zp_zip]
  congr 1
  induction xs with
  | nil => rfl
  | cons x xs ih => rw [List.zip_cons_cons, ih]; rfl
section
variable {P : Program} {w : World} {K : PySem.W.Frag} {mg : Str → Option Value} {base : Heap}
theorem ok_never {k n : Nat} {f : Addr} {fd : FuncData} {ps : List Str} {g : List D → Option D} (hg : ∀ ds, g ds = none) : FnOk P w K mg base CX0 k f fd ps (spD n g) :=
  ⟨fun vs H Q E h => by
    obtain ⟨M, ds, d, _, _, _, e, _⟩ := h
    rw [hg] at e
    exact (nomatch e), fun A outer s H args us vs Q E _ _ _ _ h => by
    obtain ⟨M, ds, d, _, _, _, e, _⟩ := h
    rw [hg] at e
    exact (nomatch e)⟩
theorem ok_alikeS {f : Addr} {fd : FuncData} {k n : Nat} (F : Fun K "_law_alike" "_law_alike" s_law_alike f fd) (m_isinstance : mg "isinstance" = none) (m_tuple : mg "tuple" = none) (m_bool : mg "bool" = none) (m_int : mg "int" = none) (m_str : mg "str" = none) (m_len : mg "len" = none) (m_all : mg "all" = none) (m_zip : mg "zip" = none)
    (C__law_alike : Cl P w K mg base k "_law_alike" ["_law_one_here", "_law_other"] (spD 2 (sAl (dpA n)))) : FnOk P w K mg base CX0 (k + 1) f fd ["_law_one_here", "_law_other"] (spD 2 (sAl (dpA (n + 1)))) := by
  refine okFn F sc_law_alike rfl fun cdv A outer s H E hr => ⟨_, (dSs_cons (dS_if (PW.pt (dW_and (dT_val (dE_isi (dE_var (μ := true) (pv 0)) (pe_bltn (v := .ty "tuple") (by rfl) m_tuple (by decide +kernel) rfl) (by rfl) m_isinstance (by decide +kernel))) (dW_and1 (dT_val (dE_isi (dE_var (μ := true) (pv 1)) (pe_bltn (v := .ty "tuple") (by rfl) m_tuple (by decide +kernel) rfl) (by rfl) m_isinstance (by decide +kernel))))))
    (dSs_one (dS_ret (ps_ret (dE_and (dE_cmp (o_eq hr.units) (dE_callB c_len (by rfl) m_len (by decide +kernel) (dA_cons (dE_var (μ := true) (pv 0)) (dA_nil (μ := true)))) (dE_callB c_len (by rfl) m_len (by decide +kernel) (dA_cons (dE_var (μ := true) (pv 1)) (dA_nil (μ := true)))) (nomark _)) (dE_one (dE_callB (c_all rfl) (by rfl) m_all (by decide +kernel) (dA_cons (dE_lc (K := K) (p := (.tp (.cons (.nm 2) (.cons (.nm 3) .nil)))) (pe_lc (own := [("_law_a", 2), ("_law_b", 3)]) (g := gP K (.tp (.cons (.nm 2) (.cons (.nm 3) .nil)))) rfl sc_law_alike.nd (dI_zip (by rfl) m_zip (dA_cons (dE_var (μ := true) (pv 0)) (dA_cons (dE_var (μ := true) (pv 1)) (dA_nil (μ := true))))) (blkOk_by (own := [("_law_a", 2), ("_law_b", 3)]) (N := ["_law_one_here", "_law_other", "_law_a", "_law_b"]) (sc := defScope s_law_alike) (by decide +kernel)) (fun _ _ _ _ _ => (pg_tup (by rfl) (pgs_cons (pg_name (i := 2) sc_law_alike.nd rfl (.inl rfl)) (pgs_cons (pg_name (i := 3) sc_law_alike.nd rfl (.inl rfl)) pgs_nil)))) (fun _ _ _ _ _ => dTs_nil) (fun _ _ _ _ _ => (dE_cl C__law_alike (hr.mono (by omega)) (by rfl) (dA_cons (dE_var (μ := true) (pv 2)) (dA_cons (dE_var (μ := true) (pv 3)) (dA_nil (μ := true)))))))) (dA_nil (μ := true)))))))))
    dSs_nil)
  (dSs_cons (dS_if (PW.pt (dW_or (dT_val (dE_isi (dE_var (μ := true) (pv 0)) (pe_bltn (v := .ty "bool") (by rfl) m_bool (by decide +kernel) rfl) (by rfl) m_isinstance (by decide +kernel))) (dW_or1 (dT_val (dE_isi (dE_var (μ := true) (pv 1)) (pe_bltn (v := .ty "bool") (by rfl) m_bool (by decide +kernel) rfl) (by rfl) m_isinstance (by decide +kernel))))))
    (dSs_one (dS_ret (ps_ret (dE_and (dE_isi (dE_var (μ := true) (pv 0)) (pe_bltn (v := .ty "bool") (by rfl) m_bool (by decide +kernel) rfl) (by rfl) m_isinstance (by decide +kernel)) (dE_and (dE_isi (dE_var (μ := true) (pv 1)) (pe_bltn (v := .ty "bool") (by rfl) m_bool (by decide +kernel) rfl) (by rfl) m_isinstance (by decide +kernel)) (dE_one (dE_cmp (o_eq hr.units) (dE_var (μ := true) (pv 0)) (dE_var (μ := true) (pv 1)) (nomark _))))))))
    dSs_nil)
  (dSs_cons (dS_if (dT_cmp (o_ne hr.units) (dE_isi (dE_var (μ := true) (pv 0)) (pe_bltn (v := .ty "int") (by rfl) m_int (by decide +kernel) rfl) (by rfl) m_isinstance (by decide +kernel)) (dE_isi (dE_var (μ := true) (pv 1)) (pe_bltn (v := .ty "int") (by rfl) m_int (by decide +kernel) rfl) (by rfl) m_isinstance (by decide +kernel)) (nomark _))
    (dSs_one (dS_ret (ps_ret (dE_c (μ := true) pe_bl))))
    dSs_nil)
  (dSs_one (dS_ret (ps_ret (dE_and (dE_cmp (o_eq hr.units) (dE_isi (dE_var (μ := true) (pv 0)) (pe_bltn (v := .ty "str") (by rfl) m_str (by decide +kernel) rfl) (by rfl) m_isinstance (by decide +kernel)) (dE_isi (dE_var (μ := true) (pv 1)) (pe_bltn (v := .ty "str") (by rfl) m_str (by decide +kernel) rfl) (by rfl) m_isinstance (by decide +kernel)) (nomark _)) (dE_one (dE_cmp (o_eq hr.units) (dE_var (μ := true) (pv 0)) (dE_var (μ := true) (pv 1)) (nomark _)))))))))), fun ds d l e => ?_⟩
  match ds, e with
  | [a, b], e =>
    have e : @ite _ (a = b ∧ dpA (n + 1) a) (Classical.propDecidable _) (some (PyData.bool true)) none = some d := e
    by_cases hc : a = b ∧ dpA (n + 1) a
    · rw [if_pos hc] at e
      cases e
      obtain ⟨rfl, dp⟩ := hc
      refine ⟨.rt (.bool true), ?_, rfl⟩
      refine (ev_if (b := isTup a) ((ev_oAnd (ev_oB (isi_tup a))).trans (by cases h : isTup a <;> first | rfl | exact (ev_oB (isi_tup a)).trans (by rw [h])))).trans ?_
      cases h : isTup a with
      | true =>
        cases a <;> try (cases h; done)
        rename_i xs
        obtain ⟨xl, dp⟩ : xs.length ≤ 1000 ∧ ∀ d ∈ xs, dpA n d := dp
        refine ev_retS (ev_and (b := true) ((ev_e2 (a := .int xs.length) (b := .int xs.length) rfl rfl (eq_ok rfl rfl)).trans (by show some (PyData.bool ((xs.length : Int) == xs.length)) = _; rw [beq_self_eq_true])) (fun _ => ?_) (fun z => by cases z))
        refine (ev_all (xs := xs.map fun x => (x, x)) (t := fun _ => true) (items := zpGo xs xs) rfl ?_).trans (by simp)
        rw [zp_self]
        exact ev_lcP (i := 2) (j := 3) (t := fun _ _ => .bool true) (by show 2 < 4; decide) (by show 3 < 4; decide) _ fun x hx => by
          obtain ⟨y, hy, rfl⟩ := List.mem_map.mp hx
          exact ev_call rfl rfl (sAl_ok (dp y hy))
      | false =>
        refine (show _ = _ from ev_nil).trans ?_
        have ok : okD a = true := by
          cases a <;> first | exact dp | (cases h; done) | exact (dp : False).elim
        have er := eqv_refl ok
        have eqa : ∀ ρ, eVar 0 ρ = some a → eVar 1 ρ = some a → e2 eqD (eVar 0) (eVar 1) ρ = some (.bool true) := fun ρ h1 h2 => ev_e2 h1 h2 ((eq_ok ok ok).trans (by rw [er]))
        cases a with
        | bool b =>
          refine (ev_if (b := true) (ev_oOrT (ev_oB (isiV rfl (isi_bool _))))).trans ?_
          exact ev_retS (ev_and (b := true) (isiV rfl (isi_bool _)) (fun _ => ev_and (b := true) (isiV rfl (isi_bool _)) (fun _ => eqa _ rfl rfl) (fun z => by cases z)) (fun z => by cases z))
        | tuple xs => cases h
        | list xs => exact (dp : False).elim
        | dict xs => exact (dp : False).elim
        | none =>
          refine (ev_if (b := false) (ev_oOrF (ev_oB (isiV rfl (isi_bool _))) (ev_oB (isiV rfl (isi_bool _))))).trans ?_
          refine (show _ = _ from ev_nil).trans ?_
          refine (ev_if (b := false) (ev_oB (ev_e2 (a := .bool false) (b := .bool false) (isiV rfl (isi_int _)) (isiV rfl (isi_int _)) rfl))).trans ?_
          refine (show _ = _ from ev_nil).trans ?_
          exact ev_ret (ev_and (b := true) (ev_e2 (a := .bool false) (b := .bool false) (isiV rfl (isi_str _)) (isiV rfl (isi_str _)) rfl) (fun _ => eqa _ rfl rfl) (fun z => by cases z))
        | int i =>
          refine (ev_if (b := false) (ev_oOrF (ev_oB (isiV rfl (isi_bool _))) (ev_oB (isiV rfl (isi_bool _))))).trans ?_
          refine (show _ = _ from ev_nil).trans ?_
          refine (ev_if (b := false) (ev_oB (ev_e2 (a := .bool true) (b := .bool true) (isiV rfl (isi_int _)) (isiV rfl (isi_int _)) rfl))).trans ?_
          refine (show _ = _ from ev_nil).trans ?_
          exact ev_ret (ev_and (b := true) (ev_e2 (a := .bool false) (b := .bool false) (isiV rfl (isi_str _)) (isiV rfl (isi_str _)) rfl) (fun _ => eqa _ rfl rfl) (fun z => by cases z))
        | str i =>
          refine (ev_if (b := false) (ev_oOrF (ev_oB (isiV rfl (isi_bool _))) (ev_oB (isiV rfl (isi_bool _))))).trans ?_
          refine (show _ = _ from ev_nil).trans ?_
          refine (ev_if (b := false) (ev_oB (ev_e2 (a := .bool false) (b := .bool false) (isiV rfl (isi_int _)) (isiV rfl (isi_int _)) rfl))).trans ?_
          refine (show _ = _ from ev_nil).trans ?_
          exact ev_ret (ev_and (b := true) (ev_e2 (a := .bool true) (b := .bool true) (isiV rfl (isi_str _)) (isiV rfl (isi_str _)) rfl) (fun _ => eqa _ rfl rfl) (fun z => by cases z))
    · rw [if_neg hc] at e
      cases e
end
end Dl
namespace Dl
open PySem PySem.Spec PyProof.Rows L2 Rt
/-- some thing of such a sort, by at most so many draws -/
def gAny (c : Nat) (pre : List D → Prop) (post : List D → D → Prop) : GF := ⟨fun ds n Q => pre ds ∧ c ≤ n ∧ ∀ d n', post ds d → n ≤ n' + c → Q d n', fun h ⟨a, b, q⟩ => ⟨a, b, fun d n' p l => h _ _ (q d n' p l)⟩⟩
def gNext : GF := gAny 1 (fun ds => ∃ b : Int, ds = [.int b] ∧ 0 < b ∧ b < 2 ^ 60) (fun ds d => ∃ b v : Int, ds = [.int b] ∧ d = .int v ∧ 0 ≤ v ∧ v < b)
def gOne : GF := gAny 1 (fun ds => ∃ w items, ds = [w] ∧ seqD w = some items ∧ 0 < items.length ∧ items.length ≤ 1000) (fun ds d => ∃ w items, ds = [w] ∧ seqD w = some items ∧ d ∈ items)
theorem kp_own {g : Gd} {H H' : Hp} (k : Kp g H H') : KpM g.own H H' := fun p o n e => k p o (fun z => n (.inl z)) (fun z => n (.inr (.inr z))) e
section
variable {P : Program} {w : World} {K : PySem.W.Frag} {mg : Str → Option Value} {base : Heap}
theorem ok_nextN {f : Addr} {fd : FuncData} {k : Nat} {ps : List Str} (F : FnOk P w K mg base CX0 k f fd ps spNext) : FnOk P w K mg base CX0 k f fd ps (spN 1 gNext) := F.wk fun vs H Q E h => by
  obtain ⟨g, M, ws, ds, n, rfl, pl, dm, iv, r, l, ⟨b, rfl, b0, b1⟩, hn, q⟩ := h
  match ws, r with
  | [_], .cons (.int _) .nil =>
    exact ⟨g, n, b, rfl, iv, hn, b0, b1, fun v H' v0 v1 F' K' => q (.int v) (n - 1) ⟨b, v, rfl, rfl, v0, v1⟩ (by omega) (.int v) H' (kp_own K') F' (.int v)⟩
theorem ok_oneN {f : Addr} {fd : FuncData} (F : Fun K "_law_one" "_law_one" s_law_one f fd) (m_len : mg "len" = none) (C__law_next : Cl P w K mg base 1 "_law_next" ["_law_drawn", "_law_below"] (spN 1 gNext)) : FnOk P w K mg base CX0 2 f fd ["_law_drawn", "_law_wares"] (spN 1 gOne) := by
  refine okFnN F sc_law_one rfl fun cdv A outer s H E hr => ⟨_, (nSs_one (nS_ret (ps_ret (nE_ix (nE_pure (dE_var (μ := true) (pv 1))) (nE_draw C__law_next (hr.mono (by omega)) (by rfl) (pv 0) (nA_cons (nE_pure (dE_callB c_len (by rfl) m_len (by decide +kernel) (dA_cons (dE_var (μ := true) (pv 1)) (dA_nil (μ := true))))) nA_nil)))))), fun ds b Q l h => ?_⟩
  obtain ⟨⟨w, items, rfl, es, l0, l1⟩, hb, q⟩ := h
  have el : lenD [w] = some (.int items.length) := by
    cases w <;> cases es <;> rfl
  refine ⟨w, rfl, rfl, .int items.length, el, [.int items.length], rfl, rfl, ⟨_, rfl, by omega, by omega⟩, hb, fun d n' p hn => ?_⟩
  obtain ⟨b', v, e1, rfl, v0, v1⟩ := p
  cases e1
  obtain ⟨x, hx, xm, _⟩ := atI_in (xs := items) v0 v1
  refine ⟨x, ?_, q x n' ⟨w, items, rfl, es, xm⟩ hn⟩
  cases w <;> cases es <;> exact hx
end
end Dl
namespace Dl
open PySem PySem.Spec PyProof.Rows L2 Rt
theorem wNext {i : Nat} {e : EF} {ρ : Rho} {b : Nat} {Q : D → Nat → Prop} {m : Int} (hp : ρ[i]? = some (some .pool)) (he : e (shutR true ρ) = some (.int m)) (h0 : 0 < m) (h1 : m < 2 ^ 60) (hb : 1 ≤ b) (q : ∀ v n', 0 ≤ v → v < m → b ≤ n' + 1 → Q (.int v) n') : (wCall i 1 gNext (wCons (wP e) wNil)).w ρ b Q :=
  ⟨hp, .int m, he, _, rfl, rfl, ⟨m, rfl, h0, h1⟩, hb, fun d n' ⟨b', v, e1, e2, v0, v1⟩ hn => by
    cases e1
    subst e2
    exact q v n' v0 v1 hn⟩
theorem wOne {i : Nat} {e : EF} {ρ : Rho} {b : Nat} {Q : D → Nat → Prop} {x : D} {items : List D} (hp : ρ[i]? = some (some .pool)) (he : e (shutR true ρ) = some x) (hs : seqD x = some items) (h0 : 0 < items.length) (h1 : items.length ≤ 1000) (hb : 1 ≤ b) (q : ∀ d n', d ∈ items → b ≤ n' + 1 → Q d n') : (wCall i 1 gOne (wCons (wP e) wNil)).w ρ b Q :=
  ⟨hp, x, he, _, rfl, rfl, ⟨x, items, rfl, hs, h0, h1⟩, hb, fun d n' ⟨w', it', e1, e2, m⟩ hn => by
    cases e1
    rw [hs] at e2
    cases e2
    exact q d n' m hn⟩
/-- kinds as they are drawn -/
def Kds (ks : List D) : Prop := 1 ≤ ks.length ∧ ks.length ≤ 4 ∧ ∀ k ∈ ks, isName k = true
def SrcP (n : Int) (ks : List D) (d : D) : Prop := ∃ k a pl s m, d = .tuple [k, .int a, .int pl, .int s, .int m] ∧ k ∈ ks ∧ 0 ≤ a ∧ a ≤ 20 ∧ 0 ≤ pl ∧ pl < n ∧ 0 ≤ s ∧ s ≤ 1000000 ∧ 1 ≤ m ∧ m ≤ 9
def PrtP (ks : List D) (d : D) : Prop := ∃ k l h, d = .tuple [k, .int l, .int h] ∧ k ∈ ks ∧ 0 ≤ l ∧ l ≤ h ∧ h ≤ 20
def gSource : GF := gAny 9 (fun ds => ∃ n ks old, ds = [.int n, .tuple ks, .int old] ∧ Kds ks ∧ 1 ≤ n ∧ n ≤ 6 ∧ 0 ≤ old ∧ old ≤ 20) (fun ds d => ∃ n ks old, ds = [.int n, .tuple ks, .int old] ∧ SrcP n ks d)
def gPart : GF := gAny 6 (fun ds => ∃ ks old, ds = [.tuple ks, .int old] ∧ Kds ks ∧ 0 ≤ old ∧ old ≤ 20) (fun ds d => ∃ ks old, ds = [.tuple ks, .int old] ∧ PrtP ks d)
theorem lst4 {α : Type} {a b c d : α} {i : Int} (h0 : 0 ≤ i) (h1 : i < 4) : ∃ x, L2.atI [a, b, c, d] i = some x ∧ (x = a ∨ x = b ∨ x = c ∨ x = d) := by
  obtain ⟨x, e, m, _⟩ := atI_in (xs := [a, b, c, d]) h0 h1
  exact ⟨x, e, by simpa using m⟩
theorem lst3 {α : Type} {a b c : α} {i : Int} (h0 : 0 ≤ i) (h1 : i < 3) : ∃ x, L2.atI [a, b, c] i = some x ∧ (x = a ∨ x = b ∨ x = c) := by
  obtain ⟨x, e, m, _⟩ := atI_in (xs := [a, b, c]) h0 h1
  exact ⟨x, e, by simpa using m⟩
section
variable {P : Program} {w : World} {K : PySem.W.Frag} {mg : Str → Option Value} {base : Heap}
theorem ok_source {f : Addr} {fd : FuncData} (F : Fun K "_law_source" "_law_source" s_law_source f fd) (C__law_next : Cl P w K mg base 1 "_law_next" ["_law_drawn", "_law_below"] (spN 1 gNext)) (C__law_one : Cl P w K mg base 2 "_law_one" ["_law_drawn", "_law_wares"] (spN 1 gOne)) : FnOk P w K mg base CX0 3 f fd ["_law_drawn", "_law_size", "_law_kinds_here", "_law_old"] (spN 3 gSource) := by
  refine okFnN F sc_law_source rfl fun cdv A outer s H E hr => ⟨_, (nSs_cons (nS_asg (K := K) (p := .nm 4) (ps_set (i := 4) sc_law_source.nd rfl (.inl rfl) (nE_ix (nE_lst (nA_cons (nE_pure (dE_c (μ := true) pe_int)) (nA_cons (nE_draw C__law_next (hr.mono (by omega)) (by rfl) (pv 0) (nA_cons (nE_pure (dE_c (μ := true) pe_int)) nA_nil)) (nA_cons (nE_draw C__law_next (hr.mono (by omega)) (by rfl) (pv 0) (nA_cons (nE_pure (dE_c (μ := true) pe_int)) nA_nil)) (nA_cons (nE_op o_sub (nE_pure (dE_op o_pow (dE_c (μ := true) pe_int) (dE_c (μ := true) pe_int))) (nE_draw C__law_next (hr.mono (by omega)) (by rfl) (pv 0) (nA_cons (nE_pure (dE_c (μ := true) pe_int)) nA_nil))) nA_nil))))) (nE_draw C__law_next (hr.mono (by omega)) (by rfl) (pv 0) (nA_cons (nE_pure (dE_c (μ := true) pe_int)) nA_nil)))))
  (nSs_cons (nS_asg (K := K) (p := .nm 5) (ps_set (i := 5) sc_law_source.nd rfl (.inl rfl) (nE_op o_mulX (nE_draw C__law_next (hr.mono (by omega)) (by rfl) (pv 0) (nA_cons (nE_pure (dE_op o_add (dE_var (μ := true) (pv 3)) (dE_c (μ := true) pe_int))) nA_nil)) (nE_draw C__law_next (hr.mono (by omega)) (by rfl) (pv 0) (nA_cons (nE_pure (dE_c (μ := true) pe_int)) nA_nil)))))
  (nSs_cons (nS_par (ps_par (i := 6) (j := 7) (by rfl) sc_law_source.nd rfl rfl (by decide) rfl rfl (nA_cons (nE_draw C__law_one (hr.mono (by omega)) (by rfl) (pv 0) (nA_cons (nE_pure (dE_var (μ := true) (pv 2))) nA_nil)) (nA_cons (nE_draw C__law_next (hr.mono (by omega)) (by rfl) (pv 0) (nA_cons (nE_pure (dE_var (μ := true) (pv 1))) nA_nil)) nA_nil)) (by rfl)))
  (nSs_one (nS_ret (ps_ret (nE_tup (nA_cons (nE_pure (dE_var (μ := true) (pv 6))) (nA_cons (nE_pure (dE_var (μ := true) (pv 5))) (nA_cons (nE_pure (dE_var (μ := true) (pv 7))) (nA_cons (nE_pure (dE_var (μ := true) (pv 4))) (nA_cons (nE_op o_add (nE_pure (dE_c (μ := true) pe_int)) (nE_draw C__law_next (hr.mono (by omega)) (by rfl) (pv 0) (nA_cons (nE_pure (dE_c (μ := true) pe_int)) nA_nil))) nA_nil)))))))))))), fun ds b Q l h => ?_⟩
  obtain ⟨⟨n, ks, old, rfl, hk, n1, n6, o0, o20⟩, hb, q⟩ := h
  have hk1 := hk.1
  have hk2 := hk.2.1
  refine ⟨.int 0, rfl, wNext (m := 12) rfl rfl (by decide) (by decide) (by omega) fun v1 b1 v10 v11 h1 => wNext (m := 40) rfl rfl (by decide) (by decide) (by omega) fun v2 b2 v20 v21 h2 => ⟨.int 1000000, rfl, wNext (m := 30) rfl rfl (by decide) (by decide) (by omega) fun v3 b3 v30 v31 h3 => ⟨_, rfl, _, rfl, _, rfl, _, rfl, _, rfl, _, rfl, ?_⟩⟩⟩
  refine wNext (m := 4) rfl rfl (by decide) (by decide) (by omega) fun v4 b4 v40 v41 h4 => ?_
  obtain ⟨x, ex, xs⟩ := lst4 (a := PyData.int 0) (b := .int v1) (c := .int v2) (d := .int (1000000 - v3)) v40 v41
  obtain ⟨sn, rfl, s0, s1⟩ : ∃ sn : Int, x = .int sn ∧ 0 ≤ sn ∧ sn ≤ 1000000 := by
    rcases xs with rfl | rfl | rfl | rfl
    · exact ⟨_, rfl, by decide, by decide⟩
    · exact ⟨_, rfl, by omega, by omega⟩
    · exact ⟨_, rfl, by omega, by omega⟩
    · exact ⟨_, rfl, by omega, by omega⟩
  refine ⟨_, ex, [some .pool, some (.dat (.int n)), some (.dat (.tuple ks)), some (.dat (.int old)), some (.dat (.int sn)), none, none, none], rfl, ?_⟩
  refine wNext (m := old + 1) rfl rfl (by omega) (by omega) (by omega) fun v5 b5 v50 v51 h5 => wNext (m := 2) rfl rfl (by decide) (by decide) (by omega) fun v6 b6 v60 v61 h6 => ?_
  have hm0 : 0 ≤ v5 * v6 := Int.mul_nonneg v50 v60
  have hm1 : v5 * v6 ≤ 20 := by
    have : v6 = 0 ∨ v6 = 1 := by omega
    rcases this with rfl | rfl <;> omega
  refine ⟨.int (v5 * v6), ?_, [some .pool, some (.dat (.int n)), some (.dat (.tuple ks)), some (.dat (.int old)), some (.dat (.int sn)), some (.dat (.int (v5 * v6))), none, none], rfl, ?_⟩
  · exact if_pos (Or.inl ⟨by omega, by omega⟩)
  refine wOne (items := ks) rfl rfl rfl hk1 (by omega) (by omega) fun k b7 km h7 => wNext (m := n) rfl rfl (by omega) (by omega) (by omega) fun v8 b8 v80 v81 h8 => ⟨_, rfl, _, rfl, _, _, rfl, ?_⟩
  refine ⟨_, rfl, _, rfl, _, rfl, _, rfl, .int 1, rfl, wNext (m := 9) rfl rfl (by decide) (by decide) (by omega) fun v9 b9 v90 v91 h9 => ⟨_, rfl, _, rfl, _, rfl, _, rfl, _, rfl, _, rfl, _, rfl, ?_⟩⟩
  exact q _ b9 ⟨n, ks, old, rfl, k, v5 * v6, v8, sn, 1 + v9, rfl, km, hm0, hm1, v80, v81, s0, s1, by omega, by omega⟩ (by omega)
theorem ok_part {f : Addr} {fd : FuncData} (F : Fun K "_law_part" "_law_part" s_law_part f fd) (m_min : mg "min" = none) (C__law_next : Cl P w K mg base 1 "_law_next" ["_law_drawn", "_law_below"] (spN 1 gNext)) (C__law_one : Cl P w K mg base 2 "_law_one" ["_law_drawn", "_law_wares"] (spN 1 gOne)) : FnOk P w K mg base CX0 3 f fd ["_law_drawn", "_law_kinds_here", "_law_old"] (spN 2 gPart) := by
  refine okFnN F sc_law_part rfl fun cdv A outer s H E hr => ⟨_, (nSs_cons (nS_asg (K := K) (p := .nm 3) (ps_set (i := 3) sc_law_part.nd rfl (.inl rfl) (nE_draw C__law_next (hr.mono (by omega)) (by rfl) (pv 0) (nA_cons (nE_pure (dE_op o_add (dE_var (μ := true) (pv 2)) (dE_c (μ := true) pe_int))) nA_nil))))
  (nSs_cons (nS_asg (K := K) (p := .nm 4) (ps_set (i := 4) sc_law_part.nd rfl (.inl rfl) (nE_ix (nE_lst (nA_cons (nE_pure (dE_var (μ := true) (pv 3))) (nA_cons (nE_callB (c_min2 rfl) (by rfl) m_min (by decide +kernel) (nA_cons (nE_pure (dE_var (μ := true) (pv 2))) (nA_cons (nE_op o_add (nE_pure (dE_var (μ := true) (pv 3))) (nE_draw C__law_next (hr.mono (by omega)) (by rfl) (pv 0) (nA_cons (nE_pure (dE_c (μ := true) pe_int)) nA_nil))) nA_nil))) (nA_cons (nE_pure (dE_var (μ := true) (pv 2))) nA_nil)))) (nE_draw C__law_next (hr.mono (by omega)) (by rfl) (pv 0) (nA_cons (nE_pure (dE_c (μ := true) pe_int)) nA_nil)))))
  (nSs_one (nS_ret (ps_ret (nE_tup (nA_cons (nE_draw C__law_one (hr.mono (by omega)) (by rfl) (pv 0) (nA_cons (nE_pure (dE_var (μ := true) (pv 1))) nA_nil)) (nA_cons (nE_ix (nE_pure (dE_lst (dA_cons (dE_var (μ := true) (pv 3)) (dA_cons (dE_var (μ := true) (pv 3)) (dA_cons (dE_c (μ := true) pe_int) (dA_nil (μ := true))))))) (nE_draw C__law_next (hr.mono (by omega)) (by rfl) (pv 0) (nA_cons (nE_pure (dE_c (μ := true) pe_int)) nA_nil))) (nA_cons (nE_pure (dE_var (μ := true) (pv 4))) nA_nil))))))))), fun ds b Q l h => ?_⟩
  obtain ⟨⟨ks, old, rfl, hk, o0, o20⟩, hb, q⟩ := h
  have hk1 := hk.1
  have hk2 := hk.2.1
  refine wNext (m := old + 1) rfl rfl (by omega) (by omega) (by omega) fun v1 b1 v10 v11 h1 => ⟨[some .pool, some (.dat (.tuple ks)), some (.dat (.int old)), some (.dat (.int v1)), none], rfl, ?_⟩
  refine ⟨.int v1, rfl, .int old, rfl, .int v1, rfl, wNext (m := 5) rfl rfl (by decide) (by decide) (by omega) fun v2 b2 v20 v21 h2 => ⟨_, rfl, _, rfl, _, rfl, _, rfl, .int old, rfl, _, rfl, _, rfl, _, rfl, _, rfl, ?_⟩⟩
  refine wNext (m := 3) rfl rfl (by decide) (by decide) (by omega) fun v3 b3 v30 v31 h3 => ?_
  obtain ⟨x, ex, xs⟩ := lst3 (a := PyData.int v1) (b := .int (if v1 + v2 < old then v1 + v2 else old)) (c := .int old) v30 v31
  obtain ⟨gr, rfl, g0, g1⟩ : ∃ gr : Int, x = .int gr ∧ v1 ≤ gr ∧ gr ≤ 20 := by
    rcases xs with rfl | rfl | rfl
    · exact ⟨_, rfl, by omega, by omega⟩
    · exact ⟨_, rfl, by split <;> omega, by split <;> omega⟩
    · exact ⟨_, rfl, by omega, by omega⟩
  refine ⟨_, ex, [some .pool, some (.dat (.tuple ks)), some (.dat (.int old)), some (.dat (.int v1)), some (.dat (.int gr))], rfl, ?_⟩
  refine wOne (items := ks) rfl rfl rfl hk1 (by omega) (by omega) fun k b4 km h4 => ⟨_, rfl, wNext (m := 3) rfl rfl (by decide) (by decide) (by omega) fun v5 b5 v50 v51 h5 => ?_⟩
  obtain ⟨y, ey, ys⟩ := lst3 (a := PyData.int v1) (b := .int v1) (c := .int 0) v50 v51
  obtain ⟨lo, rfl, l0, l1⟩ : ∃ lo : Int, y = .int lo ∧ 0 ≤ lo ∧ lo ≤ v1 := by
    rcases ys with rfl | rfl | rfl
    · exact ⟨_, rfl, by omega, by omega⟩
    · exact ⟨_, rfl, by omega, by omega⟩
    · exact ⟨_, rfl, by omega, by omega⟩
  refine ⟨_, ey, _, rfl, _, rfl, _, rfl, _, rfl, _, rfl, ?_⟩
  exact q _ b5 ⟨ks, old, rfl, k, lo, gr, rfl, km, l0, by omega, g1⟩ (by omega)
end
/-- a comprehension each of whose things costs so much -/
theorem lcN_all {p : Pat} {f : WP D} {ρ : Rho} (c : Nat) (Pt : D → Prop) : ∀ (items : List D) (b : Nat) (Q : List D → Nat → Prop), items.length * c ≤ b →
    (∀ x ∈ items, ∀ b Q, c ≤ b → (∀ d n', Pt d → b ≤ n' + c → Q d n') → ∃ ρ1, bindP p x ρ = some ρ1 ∧ f.w ρ1 b Q) → (∀ r b', r.length = items.length → (∀ d ∈ r, Pt d) → b ≤ b' + items.length * c → Q r b') → lcN p wYes f ρ items b Q
  | [], b, Q, _, _, q => q [] b rfl (fun d m => nomatch m) (by simp)
  | x :: xs, b, Q, hb, hf, q => by
    have e : (x :: xs).length * c = xs.length * c + c := by rw [List.length_cons, Nat.add_mul, Nat.one_mul]
    rw [e] at hb q
    obtain ⟨ρ1, e1, w1⟩ := hf x (by simp) b (fun d b2 => lcN p wYes f ρ xs b2 fun r b3 => Q (d :: r) b3) (by omega) fun d n' pd hn => lcN_all c Pt xs n' _ (by omega) (fun y hy => hf y (by simp [hy])) fun r b' hl hr hb' => q (d :: r) b' (by rw [List.length_cons, List.length_cons, hl]) (fun z hz => by
      rcases List.mem_cons.mp hz with e | e
      · rw [e]; exact pd
      · exact hr z e) (by omega)
    exact ⟨ρ1, e1, w1⟩
/-- a comprehension that keeps some of its items -/
theorem lcN_some {i : Nat} {c : WP Bool} {ρ : Rho} (hi : i < ρ.length) (cst : Nat) : ∀ (items : List D) (b : Nat) (Q : List D → Nat → Prop), items.length * cst ≤ b →
    (∀ x ∈ items, ∀ b Q, cst ≤ b → (∀ k n', b ≤ n' + cst → Q k n') → c.w (ρ.set i (some (.dat x))) b Q) → (∀ r b', r.Sublist items → b ≤ b' + items.length * cst → Q r b') → (∀ x, (shutR true (ρ.set i (some (.dat x))))[i]? = some (some (.dat x))) → lcN (.nm i) c (wP (eVar i)) ρ items b Q
  | [], b, Q, _, _, q, _ => q [] b (List.Sublist.refl _) (by simp)
  | x :: xs, b, Q, hb, hc, q, hv => by
    have e : (x :: xs).length * cst = xs.length * cst + cst := by rw [List.length_cons, Nat.add_mul, Nat.one_mul]
    rw [e] at hb q
    refine ⟨ρ.set i (some (.dat x)), by unfold bindP; rw [if_pos hi], hc x (by simp) b _ (by omega) fun k n' hn => ?_⟩
    cases k with
    | true =>
      refine ⟨x, by unfold eVar; rw [hv x], ?_⟩
      exact lcN_some hi cst xs n' _ (by omega) (fun y hy => hc y (by simp [hy])) (fun r b' hs hb' => q _ b' (hs.cons₂ x) (by omega)) hv
    | false => exact lcN_some hi cst xs n' _ (by omega) (fun y hy => hc y (by simp [hy])) (fun r b' hs hb' => q _ b' (hs.cons x) (by omega)) hv
def WayP (n : Int) (ks : List D) (d : D) : Prop := ∃ (k : D) (ps : List D) (kp : D) (hs : List Int) (wt : Int), d = .tuple [k, .tuple ps, kp, .tuple (hs.map PyData.int), .int wt] ∧ k ∈ ks ∧ 1 ≤ ps.length ∧ ps.length ≤ 3 ∧ (∀ p ∈ ps, PrtP ks p) ∧ (kp = S "oldest" ∨ kp = S "youngest") ∧ hs.Sublist ((List.range n.toNat).map fun (i : Nat) => (0 : Int) + i) ∧ 1 ≤ wt ∧ wt ≤ 6
def gWay : GF := gAny 40 (fun ds => ∃ n ks old, ds = [.int n, .tuple ks, .int old] ∧ Kds ks ∧ 1 ≤ n ∧ n ≤ 6 ∧ 0 ≤ old ∧ old ≤ 20) (fun ds d => ∃ n ks old, ds = [.int n, .tuple ks, .int old] ∧ WayP n ks d)
section
variable {P : Program} {w : World} {K : PySem.W.Frag} {mg : Str → Option Value} {base : Heap}
theorem ok_way {f : Addr} {fd : FuncData} (F : Fun K "_law_way" "_law_way" s_law_way f fd) (m_range : mg "range" = none) (m_tuple : mg "tuple" = none) (C__law_next : Cl P w K mg base 1 "_law_next" ["_law_drawn", "_law_below"] (spN 1 gNext)) (C__law_one : Cl P w K mg base 2 "_law_one" ["_law_drawn", "_law_wares"] (spN 1 gOne)) (C__law_part : Cl P w K mg base 3 "_law_part" ["_law_drawn", "_law_kinds_here", "_law_old"] (spN 2 gPart)) : FnOk P w K mg base CX0 4 f fd ["_law_drawn", "_law_size", "_law_kinds_here", "_law_old"] (spN 3 gWay) := by
  refine okFnN F sc_law_way rfl fun cdv A outer s H E hr => ⟨_, (nSs_cons (nS_asg (K := K) (p := .nm 4) (ps_set (i := 4) sc_law_way.nd rfl (.inl rfl) (nE_callTy c_tuple (by rfl) m_tuple (by decide +kernel) (nA_cons (nE_lc (K := K) (p := (.nm 7)) (pe_lc (own := [("_law_k", 7)]) (g := gP K (.nm 7)) rfl sc_law_way.nd (nI_ran1 (by rfl) m_range (nA_cons (nE_ix (nE_pure (dE_lst (dA_cons (dE_c (μ := true) pe_int) (dA_cons (dE_c (μ := true) pe_int) (dA_cons (dE_c (μ := true) pe_int) (dA_cons (dE_c (μ := true) pe_int) (dA_nil (μ := true)))))))) (nE_draw C__law_next (hr.mono (by omega)) (by rfl) (pv 0) (nA_cons (nE_pure (dE_c (μ := true) pe_int)) nA_nil))) nA_nil)) (blkOk_by (own := [("_law_k", 7)]) (N := ["_law_drawn", "_law_size", "_law_kinds_here", "_law_old", "_law_parts", "_law_hours", "_law_keeps", "_law_k", "_law_place"]) (sc := defScope s_law_way) (by decide +kernel)) (fun _ _ _ _ _ => (pg_name (i := 7) sc_law_way.nd rfl (.inl rfl))) (fun _ _ _ _ _ => nTs_nil) (fun _ _ _ _ _ => (nE_draw C__law_part (hr.mono (by omega)) (by rfl) (pv 0) (nA_cons (nE_pure (dE_var (μ := true) (pv 2))) (nA_cons (nE_pure (dE_var (μ := true) (pv 3))) nA_nil)))))) nA_nil))))
  (nSs_cons (nS_asg (K := K) (p := .nm 5) (ps_set (i := 5) sc_law_way.nd rfl (.inl rfl) (nE_callTy c_tuple (by rfl) m_tuple (by decide +kernel) (nA_cons (nE_lc (K := K) (p := (.nm 8)) (pe_lc (own := [("_law_place", 8)]) (g := gP K (.nm 8)) rfl sc_law_way.nd (nI_pure (dI_ran1 (by rfl) m_range (dA_cons (dE_var (μ := true) (pv 1)) (dA_nil (μ := true))))) (blkOk_by (own := [("_law_place", 8)]) (N := ["_law_drawn", "_law_size", "_law_kinds_here", "_law_old", "_law_parts", "_law_hours", "_law_keeps", "_law_k", "_law_place"]) (sc := defScope s_law_way) (by decide +kernel)) (fun _ _ _ _ _ => (pg_name (i := 8) sc_law_way.nd rfl (.inl rfl))) (fun _ _ _ _ _ => (pts_one (nT_cmp o_gt (nE_draw C__law_next (hr.mono (by omega)) (by rfl) (pv 0) (nA_cons (nE_pure (dE_c (μ := true) pe_int)) nA_nil)) (nE_pure (dE_c (μ := true) pe_int)) (nomark _)))) (fun _ _ _ _ _ => (nE_pure (dE_var (μ := true) (pv 8)))))) nA_nil))))
  (nSs_cons (nS_asg (K := K) (p := .nm 6) (ps_set (i := 6) sc_law_way.nd rfl (.inl rfl) (nE_draw C__law_one (hr.mono (by omega)) (by rfl) (pv 0) (nA_cons (nE_pure (dE_lst (dA_cons (dE_c (μ := true) pe_str) (dA_cons (dE_c (μ := true) pe_str) (dA_nil (μ := true)))))) nA_nil))))
  (nSs_one (nS_ret (ps_ret (nE_tup (nA_cons (nE_draw C__law_one (hr.mono (by omega)) (by rfl) (pv 0) (nA_cons (nE_pure (dE_var (μ := true) (pv 2))) nA_nil)) (nA_cons (nE_pure (dE_var (μ := true) (pv 4))) (nA_cons (nE_pure (dE_var (μ := true) (pv 6))) (nA_cons (nE_pure (dE_var (μ := true) (pv 5))) (nA_cons (nE_op o_add (nE_pure (dE_c (μ := true) pe_int)) (nE_draw C__law_next (hr.mono (by omega)) (by rfl) (pv 0) (nA_cons (nE_pure (dE_c (μ := true) pe_int)) nA_nil))) nA_nil)))))))))))), fun ds b Q l h => ?_⟩
  obtain ⟨⟨n, ks, old, rfl, hk, n1, n6, o0, o20⟩, hb, q⟩ := h
  have hk1 := hk.1
  have hk2 := hk.2.1
  refine ⟨_, rfl, wNext (m := 4) rfl rfl (by decide) (by decide) (by omega) fun v1 b1 v10 v11 h1 => ?_⟩
  obtain ⟨x, ex, xs⟩ := lst4 (a := PyData.int 1) (b := .int 2) (c := .int 2) (d := .int 3) v10 v11
  obtain ⟨m, rfl, m1, m3⟩ : ∃ m : Int, x = .int m ∧ 1 ≤ m ∧ m ≤ 3 := by
    rcases xs with rfl | rfl | rfl | rfl <;> exact ⟨_, rfl, by decide, by decide⟩
  refine ⟨_, ex, _, rfl, rgD 0 m.toNat, ran1_ok (by omega) (by omega), ?_⟩
  have lm : (rgD 0 m.toNat).length = m.toNat := rgD_len _ _
  refine lcN_all 6 (PrtP ks) (rgD 0 m.toNat) b1 _ (by rw [lm]; omega) (fun x hx b Q hb q => ?_) (fun ps b2 lp hp h2 => ?_)
  · obtain ⟨i, _, rfl⟩ := List.mem_map.mp hx
    refine ⟨_, rfl, rfl, .tuple ks, rfl, .int old, rfl, _, rfl, _, rfl, rfl, ⟨ks, old, rfl, hk, o0, o20⟩, hb, fun d n' ⟨ks', old', e, pd⟩ hn => ?_⟩
    cases e
    exact q d n' pd hn
  rw [lm] at lp h2
  refine ⟨_, rfl, .tuple ps, rfl, [some .pool, some (.dat (.int n)), some (.dat (.tuple ks)), some (.dat (.int old)), some (.dat (.tuple ps)), none, none, none, none], rfl, ?_⟩
  refine ⟨rgD 0 n.toNat, ev_itG (ds := [.int n]) rfl (ran1_ok (by omega) (by omega)), ?_⟩
  have ln : (rgD 0 n.toNat).length = n.toNat := rgD_len _ _
  refine lcN_some (by show 8 < 9; decide) 1 (rgD 0 n.toNat) b2 _ (by rw [ln]; omega) (fun x hx b Q hb q => ?_) (fun r b3 hs h3 => ?_) (fun x => rfl)
  · exact wNext (m := 4) rfl rfl (by decide) (by decide) hb fun v n' v0 v1 hn => ⟨.int 0, rfl, _, rfl, _, rfl, q _ n' hn⟩
  rw [ln] at h3
  obtain ⟨hs', hsub, rfl⟩ : ∃ hs' : List Int, hs'.Sublist ((List.range n.toNat).map fun (i : Nat) => (0 : Int) + i) ∧ r = hs'.map PyData.int := by
    have e : rgD 0 n.toNat = ((List.range n.toNat).map fun (i : Nat) => (0 : Int) + i).map PyData.int := by unfold rgD; rw [List.map_map]; rfl
    rw [e] at hs
    exact List.sublist_map_iff.mp hs
  refine ⟨_, rfl, .tuple _, rfl, [some .pool, some (.dat (.int n)), some (.dat (.tuple ks)), some (.dat (.int old)), some (.dat (.tuple ps)), some (.dat (.tuple (hs'.map PyData.int))), none, none, none], rfl, ?_⟩
  refine wOne (items := [S "oldest", S "youngest"]) rfl rfl rfl (by decide) (by decide) (by omega) fun kp b4 km4 h4 => ⟨[some .pool, some (.dat (.int n)), some (.dat (.tuple ks)), some (.dat (.int old)), some (.dat (.tuple ps)), some (.dat (.tuple (hs'.map PyData.int))), some (.dat kp), none, none], rfl, ?_⟩
  refine wOne (items := ks) rfl rfl rfl hk1 (by omega) (by omega) fun k b5 km h5 => ⟨_, rfl, _, rfl, _, rfl, .int 1, rfl, wNext (m := 6) rfl rfl (by decide) (by decide) (by omega) fun v6 b6 v60 v61 h6 => ⟨_, rfl, _, rfl, _, rfl, _, rfl, _, rfl, _, rfl, _, rfl, ?_⟩⟩
  exact q _ b6 ⟨n, ks, old, rfl, k, ps, kp, hs', 1 + v6, rfl, km, by omega, by omega, hp, by simpa using km4, hsub, by omega, by omega⟩ (by omega)
end
end Dl
namespace Dl
open PySem PySem.Spec PyProof.Rows L2 Rt
structure WorldP (d : D) : Prop where
  ex : ∃ (n : Int) (ks ss ws : List D), d = .tuple [.int n, .tuple ks, .tuple ss, .tuple ws] ∧ 1 ≤ n ∧ n ≤ 6 ∧ Kds ks ∧ ss.length ≤ 6 ∧ (∀ s ∈ ss, SrcP n ks s) ∧ 1 ≤ ws.length ∧ ws.length ≤ 8 ∧ ∀ w ∈ ws, WayP n ks w
def gKinds : GF := gAny 10 (fun ds => ∃ m : Int, ds = [.int m] ∧ 1 ≤ m ∧ m ≤ 4) (fun ds d => ∃ (m : Int) (ks : List D), ds = [.int m] ∧ d = .tuple ks ∧ Kds ks)
def gWorld : GF := gAny 500 (fun ds => ∃ wide old : Int, ds = [.int wide, .int old] ∧ 1 ≤ wide ∧ wide ≤ 6 ∧ 0 ≤ old ∧ old ≤ 20) (fun ds d => WorldP d)
theorem lst6 {α : Type} {a b c d e f : α} {i : Int} (h0 : 0 ≤ i) (h1 : i < 6) : ∃ x, L2.atI [a, b, c, d, e, f] i = some x ∧ (x = a ∨ x = b ∨ x = c ∨ x = d ∨ x = e ∨ x = f) := by
  obtain ⟨x, e, m, _⟩ := atI_in (xs := [a, b, c, d, e, f]) h0 h1
  exact ⟨x, e, by simpa using m⟩
section
variable {P : Program} {w : World} {K : PySem.W.Frag} {mg : Str → Option Value} {base : Heap}
theorem ok_world {f : Addr} {fd : FuncData} (F : Fun K "_law_world" "_law_world" s_law_world f fd) (m_range : mg "range" = none) (m_tuple : mg "tuple" = none) (C__law_next : Cl P w K mg base 1 "_law_next" ["_law_drawn", "_law_below"] (spN 1 gNext)) (C__law_kinds : Cl P w K mg base 3 "_law_kinds" ["_law_drawn", "_law_many"] (spN 1 gKinds)) (C__law_source : Cl P w K mg base 3 "_law_source" ["_law_drawn", "_law_size", "_law_kinds_here", "_law_old"] (spN 3 gSource)) (C__law_way : Cl P w K mg base 4 "_law_way" ["_law_drawn", "_law_size", "_law_kinds_here", "_law_old"] (spN 3 gWay)) : FnOk P w K mg base CX0 5 f fd ["_law_drawn", "_law_wide", "_law_old"] (spN 2 gWorld) := by
  refine okFnN F sc_law_world rfl fun cdv A outer s H E hr => ⟨_, (nSs_cons (nS_asg (K := K) (p := .nm 3) (ps_set (i := 3) sc_law_world.nd rfl (.inr rfl) (nE_op o_add (nE_pure (dE_c (μ := true) pe_int)) (nE_draw C__law_next (hr.mono (by omega)) (by rfl) (pv 0) (nA_cons (nE_pure (dE_var (μ := true) (pv 1))) nA_nil)))))
  (nSs_cons (nS_asg (K := K) (p := .nm 4) (ps_set (i := 4) sc_law_world.nd rfl (.inr rfl) (nE_draw C__law_kinds (hr.mono (by omega)) (by rfl) (pv 0) (nA_cons (nE_op o_add (nE_pure (dE_c (μ := true) pe_int)) (nE_draw C__law_next (hr.mono (by omega)) (by rfl) (pv 0) (nA_cons (nE_pure (dE_c (μ := true) pe_int)) nA_nil))) nA_nil))))
  (nSs_cons (nS_asg (K := K) (p := .nm 5) (ps_set (i := 5) sc_law_world.nd rfl (.inl rfl) (nE_ix (nE_pure (dE_lst (dA_cons (dE_c (μ := true) pe_int) (dA_cons (dE_c (μ := true) pe_int) (dA_cons (dE_c (μ := true) pe_int) (dA_cons (dE_c (μ := true) pe_int) (dA_cons (dE_c (μ := true) pe_int) (dA_cons (dE_c (μ := true) pe_int) (dA_nil (μ := true)))))))))) (nE_draw C__law_next (hr.mono (by omega)) (by rfl) (pv 0) (nA_cons (nE_pure (dE_c (μ := true) pe_int)) nA_nil)))))
  (nSs_cons (nS_asg (K := K) (p := .nm 6) (ps_set (i := 6) sc_law_world.nd rfl (.inl rfl) (nE_callTy c_tuple (by rfl) m_tuple (by decide +kernel) (nA_cons (nE_lc (K := K) (p := (.nm 8)) (pe_lc (own := [("_law_k", 8)]) (g := gP K (.nm 8)) rfl sc_law_world.nd (nI_pure (dI_ran1 (by rfl) m_range (dA_cons (dE_var (μ := true) (pv 5)) (dA_nil (μ := true))))) (blkOk_by (own := [("_law_k", 8)]) (N := ["_law_drawn", "_law_wide", "_law_old", "_law_size", "_law_kinds_here", "_law_many", "_law_sources", "_law_ways", "_law_k"]) (sc := defScope s_law_world) (by decide +kernel)) (fun _ _ _ _ _ => (pg_name (i := 8) sc_law_world.nd rfl (.inl rfl))) (fun _ _ _ _ _ => nTs_nil) (fun _ _ _ _ _ => (nE_draw C__law_source (hr.mono (by omega)) (by rfl) (pv 0) (nA_cons (nE_pure (dE_var (μ := true) (pv 3))) (nA_cons (nE_pure (dE_var (μ := true) (pv 4))) (nA_cons (nE_pure (dE_var (μ := true) (pv 2))) nA_nil))))))) nA_nil))))
  (nSs_cons (nS_asg (K := K) (p := .nm 5) (ps_set (i := 5) sc_law_world.nd rfl (.inl rfl) (nE_ix (nE_pure (dE_lst (dA_cons (dE_c (μ := true) pe_int) (dA_cons (dE_c (μ := true) pe_int) (dA_cons (dE_c (μ := true) pe_int) (dA_cons (dE_c (μ := true) pe_int) (dA_cons (dE_c (μ := true) pe_int) (dA_cons (dE_c (μ := true) pe_int) (dA_nil (μ := true)))))))))) (nE_draw C__law_next (hr.mono (by omega)) (by rfl) (pv 0) (nA_cons (nE_pure (dE_c (μ := true) pe_int)) nA_nil)))))
  (nSs_cons (nS_asg (K := K) (p := .nm 7) (ps_set (i := 7) sc_law_world.nd rfl (.inl rfl) (nE_callTy c_tuple (by rfl) m_tuple (by decide +kernel) (nA_cons (nE_lc (K := K) (p := (.nm 8)) (pe_lc (own := [("_law_k", 8)]) (g := gP K (.nm 8)) rfl sc_law_world.nd (nI_pure (dI_ran1 (by rfl) m_range (dA_cons (dE_var (μ := true) (pv 5)) (dA_nil (μ := true))))) (blkOk_by (own := [("_law_k", 8)]) (N := ["_law_drawn", "_law_wide", "_law_old", "_law_size", "_law_kinds_here", "_law_many", "_law_sources", "_law_ways", "_law_k"]) (sc := defScope s_law_world) (by decide +kernel)) (fun _ _ _ _ _ => (pg_name (i := 8) sc_law_world.nd rfl (.inl rfl))) (fun _ _ _ _ _ => nTs_nil) (fun _ _ _ _ _ => (nE_draw C__law_way (hr.mono (by omega)) (by rfl) (pv 0) (nA_cons (nE_pure (dE_var (μ := true) (pv 3))) (nA_cons (nE_pure (dE_var (μ := true) (pv 4))) (nA_cons (nE_pure (dE_var (μ := true) (pv 2))) nA_nil))))))) nA_nil))))
  (nSs_one (nS_retL (ps_ret (dE_tup (dA_cons (dE_var (μ := false) (pv 3)) (dA_cons (dE_var (μ := false) (pv 4)) (dA_cons (dE_var (μ := false) (pv 6)) (dA_cons (dE_var (μ := false) (pv 7)) (dA_nil (μ := false)))))))))))))))), fun ds b Q l h => ?_⟩
  obtain ⟨⟨wide, old, rfl, w1, w6, o0, o20⟩, hb, q⟩ := h
  refine ⟨.int 1, rfl, wNext (m := wide) rfl rfl (by omega) (by omega) (by omega) fun v1 b1 v10 v11 h1 => ⟨_, rfl, [some .pool, some (.dat (.int wide)), some (.dat (.int old)), some (.dat (.int (1 + v1))), none, none, none, none, none], rfl, ?_⟩⟩
  refine ⟨rfl, .int 1, rfl, wNext (m := 4) rfl rfl (by decide) (by decide) (by omega) fun v2 b2 v20 v21 h2 => ⟨_, rfl, _, rfl, rfl, ⟨_, rfl, by omega, by omega⟩, by omega, fun d b3 hd h3 => ?_⟩⟩
  obtain ⟨m, ks, _, rfl, hk⟩ := hd
  refine ⟨[some .pool, some (.dat (.int wide)), some (.dat (.int old)), some (.dat (.int (1 + v1))), some (.dat (.tuple ks)), none, none, none, none], rfl, ?_⟩
  refine ⟨_, rfl, wNext (m := 6) rfl rfl (by decide) (by decide) (by omega) fun v4 b4 v40 v41 h4 => ?_⟩
  obtain ⟨x, ex, xs⟩ := lst6 (a := PyData.int 1) (b := .int 1) (c := .int 2) (d := .int 3) (e := .int 6) (f := .int 0) v40 v41
  obtain ⟨m1, rfl, m10, m16⟩ : ∃ m : Int, x = .int m ∧ 0 ≤ m ∧ m ≤ 6 := by
    rcases xs with rfl | rfl | rfl | rfl | rfl | rfl <;> exact ⟨_, rfl, by decide, by decide⟩
  refine ⟨_, ex, [some .pool, some (.dat (.int wide)), some (.dat (.int old)), some (.dat (.int (1 + v1))), some (.dat (.tuple ks)), some (.dat (.int m1)), none, none, none], rfl, ?_⟩
  refine ⟨rgD 0 m1.toNat, ev_itG (ds := [.int m1]) rfl (ran1_ok (by omega) (by omega)), ?_⟩
  have lm : (rgD 0 m1.toNat).length = m1.toNat := rgD_len _ _
  refine lcN_all 9 (SrcP (1 + v1) ks) (rgD 0 m1.toNat) b4 _ (by rw [lm]; omega) (fun x hx b Q hb q => ?_) (fun ss b5 ls hss h5 => ?_)
  · obtain ⟨i, _, rfl⟩ := List.mem_map.mp hx
    refine ⟨_, rfl, rfl, .int (1 + v1), rfl, .tuple ks, rfl, .int old, rfl, _, rfl, _, rfl, _, rfl, rfl, ⟨1 + v1, ks, old, rfl, hk, by omega, by omega, o0, o20⟩, hb, fun d n' ⟨_, _, _, e, pd⟩ hn => ?_⟩
    cases e
    exact q d n' pd hn
  rw [lm] at ls h5
  refine ⟨_, rfl, .tuple ss, rfl, [some .pool, some (.dat (.int wide)), some (.dat (.int old)), some (.dat (.int (1 + v1))), some (.dat (.tuple ks)), some (.dat (.int m1)), some (.dat (.tuple ss)), none, none], rfl, ?_⟩
  refine ⟨_, rfl, wNext (m := 6) rfl rfl (by decide) (by decide) (by omega) fun v6 b6 v60 v61 h6 => ?_⟩
  obtain ⟨y, ey, ys⟩ := lst6 (a := PyData.int 1) (b := .int 2) (c := .int 2) (d := .int 3) (e := .int 5) (f := .int 8) v60 v61
  obtain ⟨m2, rfl, m20, m28⟩ : ∃ m : Int, y = .int m ∧ 1 ≤ m ∧ m ≤ 8 := by
    rcases ys with rfl | rfl | rfl | rfl | rfl | rfl <;> exact ⟨_, rfl, by decide, by decide⟩
  refine ⟨_, ey, [some .pool, some (.dat (.int wide)), some (.dat (.int old)), some (.dat (.int (1 + v1))), some (.dat (.tuple ks)), some (.dat (.int m2)), some (.dat (.tuple ss)), none, none], rfl, ?_⟩
  refine ⟨rgD 0 m2.toNat, ev_itG (ds := [.int m2]) rfl (ran1_ok (by omega) (by omega)), ?_⟩
  have lm2 : (rgD 0 m2.toNat).length = m2.toNat := rgD_len _ _
  refine lcN_all 40 (WayP (1 + v1) ks) (rgD 0 m2.toNat) b6 _ (by rw [lm2]; omega) (fun x hx b Q hb q => ?_) (fun ws b7 lw hws h7 => ?_)
  · obtain ⟨i, _, rfl⟩ := List.mem_map.mp hx
    refine ⟨_, rfl, rfl, .int (1 + v1), rfl, .tuple ks, rfl, .int old, rfl, _, rfl, _, rfl, _, rfl, rfl, ⟨1 + v1, ks, old, rfl, hk, by omega, by omega, o0, o20⟩, hb, fun d n' ⟨_, _, _, e, pd⟩ hn => ?_⟩
    cases e
    exact q d n' pd hn
  rw [lm2] at lw h7
  refine ⟨_, rfl, .tuple ws, rfl, [some .pool, some (.dat (.int wide)), some (.dat (.int old)), some (.dat (.int (1 + v1))), some (.dat (.tuple ks)), some (.dat (.int m2)), some (.dat (.tuple ss)), some (.dat (.tuple ws)), none], rfl, ?_⟩
  refine ⟨_, rfl, ?_⟩
  exact q _ b7 ⟨1 + v1, ks, ss, ws, rfl, by omega, by omega, hk, by omega, hss, by omega, by omega, hws⟩ (by omega)
end
end Dl
namespace Dl
open PySem PySem.Spec PyProof.Rows L2 Rt
/-- good data, not too deep -/
structure Gd' (k : Nat) (d : D) : Prop where
  o : okD d = true
  s : sm d = true
  d : d.depth ≤ k
theorem Gd'.up {k k' : Nat} {d : D} (h : Gd' k d) (l : k ≤ k') : Gd' k' d := ⟨h.o, h.s, Nat.le_trans h.d l⟩
theorem Gd'.gd {k : Nat} {d : D} (h : Gd' k d) : gd d = true := Bool.and_eq_true_iff.mpr ⟨h.o, h.s⟩
theorem gI (i : Int) (k : Nat := 0) : Gd' k (.int i) := ⟨rfl, rfl, Nat.zero_le _⟩
theorem gB (i : Bool) (k : Nat := 0) : Gd' k (.bool i) := ⟨rfl, rfl, Nat.zero_le _⟩
theorem gNone (k : Nat := 0) : Gd' k .none := ⟨rfl, rfl, Nat.zero_le _⟩
theorem gS' {x : String} (k : Nat := 0) (h : okD (S x) = true := by decide +kernel) : Gd' k (S x) := ⟨h, rfl, Nat.zero_le _⟩
theorem smAll_of : ∀ {ds : List D}, (∀ d ∈ ds, sm d = true) → smAll ds = true
  | [], _ => rfl
  | x :: xs, h => Bool.and_eq_true_iff.mpr ⟨h x (by simp), smAll_of fun d m => h d (by simp [m])⟩
theorem dep_of : ∀ {ds : List D} {k : Nat}, (∀ d ∈ ds, d.depth ≤ k) → PyData.depthAll ds ≤ k
  | [], _, _ => Nat.zero_le _
  | x :: xs, k, h => by
    have h1 := h x (by simp)
    have h2 := dep_of (ds := xs) (k := k) fun d m => h d (by simp [m])
    show max x.depth (PyData.depthAll xs) ≤ k
    omega
theorem gT {k : Nat} {ds : List D} (h : ∀ d ∈ ds, Gd' k d) (hl : ds.length ≤ 1000) (hk : k ≤ 62) : Gd' (k + 1) (.tuple ds) := by
  refine ⟨okT fun d m => ⟨(h d m).o, Nat.le_trans (h d m).d (by omega)⟩, ?_, ?_⟩
  · exact Bool.and_eq_true_iff.mpr ⟨decide_eq_true hl, smAll_of fun d m => (h d m).s⟩
  · have := dep_of fun d m => (h d m).d
    show PyData.depthAll ds + 1 ≤ k + 1
    omega
theorem gT0 {k : Nat} : Gd' (k + 1) (.tuple []) := ⟨by decide +kernel, rfl, by show 0 + 1 ≤ k + 1; omega⟩
theorem gT1 {k : Nat} {a : D} (ha : Gd' k a) (hk : k ≤ 62 := by omega) : Gd' (k + 1) (.tuple [a]) := gT (by simpa using ha) (by simp) hk
theorem gT2 {k : Nat} {a b : D} (ha : Gd' k a) (hb : Gd' k b) (hk : k ≤ 62 := by omega) : Gd' (k + 1) (.tuple [a, b]) := gT (by simp; exact ⟨ha, hb⟩) (by simp) hk
theorem gT3 {k : Nat} {a b c : D} (ha : Gd' k a) (hb : Gd' k b) (hc : Gd' k c) (hk : k ≤ 62 := by omega) : Gd' (k + 1) (.tuple [a, b, c]) := gT (by simp; exact ⟨ha, hb, hc⟩) (by simp) hk
theorem gT4 {k : Nat} {a b c d : D} (ha : Gd' k a) (hb : Gd' k b) (hc : Gd' k c) (hd : Gd' k d) (hk : k ≤ 62 := by omega) : Gd' (k + 1) (.tuple [a, b, c, d]) := gT (by simp; exact ⟨ha, hb, hc, hd⟩) (by simp) hk
theorem gT5 {k : Nat} {a b c d e : D} (ha : Gd' k a) (hb : Gd' k b) (hc : Gd' k c) (hd : Gd' k d) (he : Gd' k e) (hk : k ≤ 62 := by omega) : Gd' (k + 1) (.tuple [a, b, c, d, e]) := gT (by simp; exact ⟨ha, hb, hc, hd, he⟩) (by simp) hk
theorem let_low : ∀ c ∈ LET, c < 1114112 := by decide +kernel
theorem gNm {x : D} (h : isName x = true) (k : Nat := 0) : Gd' k x := by
  obtain ⟨z, rfl⟩ := isName_str h
  unfold isName at h
  have h2 := (Bool.and_eq_true_iff.mp h).2
  refine ⟨?_, rfl, Nat.zero_le _⟩
  show (true && (PyData.strOk z && true)) = true
  have : PyData.strOk z = true := by
    unfold PyData.strOk
    rw [Array.all_eq_true']
    intro c hc
    exact decide_eq_true (let_low c (of_decide_eq_true (List.all_eq_true.mp h2 c (Array.mem_toList_iff.mpr hc))))
  rw [this]
  rfl
theorem gKds {ks : List D} (h : Kds ks) (k : Nat := 1) (hk : 1 ≤ k := by omega) : Gd' k (.tuple ks) := (gT (k := 0) (fun d m => gNm (h.2.2 d m)) (by have := h.2.1; omega) (by omega)).up hk
theorem gSrc {n : Int} {ks : List D} {d : D} (hk : Kds ks) (h : SrcP n ks d) : Gd' 1 d := by
  obtain ⟨k, a, pl, s, m, rfl, km, _⟩ := h
  exact gT5 (gNm (hk.2.2 k km)) (gI _) (gI _) (gI _) (gI _)
theorem gPrt {ks : List D} {d : D} (hk : Kds ks) (h : PrtP ks d) : Gd' 1 d := by
  obtain ⟨k, a, b, rfl, km, _⟩ := h
  exact gT3 (gNm (hk.2.2 k km)) (gI _) (gI _)
theorem gWay' {n : Int} {ks : List D} {d : D} (n6 : n ≤ 6) (hk : Kds ks) (h : WayP n ks d) : Gd' 3 d := by
  obtain ⟨k, ps, kp, hs, wt, rfl, km, p1, p3, hp, hkp, sub, _⟩ := h
  have hl := sub.length_le
  rw [List.length_map, List.length_range] at hl
  refine gT5 (gNm (hk.2.2 k km) 2) (gT (k := 1) (fun d m => gPrt hk (hp d m)) (by omega) (by omega)) ?_ (gT (k := 1) (fun d m => ?_) (by rw [List.length_map]; omega) (by omega)) (gI _ 2)
  · rcases hkp with rfl | rfl
    · exact gS' 2
    · exact gS' 2
  · obtain ⟨i, _, rfl⟩ := List.mem_map.mp m
    exact gI _ 1
theorem gWorld' {d : D} (h : WorldP d) : ∃ (n : Int) (ks ss ws : List D), d = .tuple [.int n, .tuple ks, .tuple ss, .tuple ws] ∧ 1 ≤ n ∧ n ≤ 6 ∧ Kds ks ∧ (ss.length ≤ 6 ∧ ∀ s ∈ ss, Gd' 1 s) ∧ ws.length ≤ 8 ∧ ∀ w ∈ ws, Gd' 3 w := by
  obtain ⟨n, ks, ss, ws, rfl, n1, n6, hk, s6, hs, w1, w8, hw⟩ := h.ex
  exact ⟨n, ks, ss, ws, rfl, n1, n6, hk, ⟨s6, fun s m => gSrc hk (hs s m)⟩, w8, fun w m => gWay' n6 hk (hw w m)⟩
theorem cut_to' {α : Type} {xs : List α} {m : Nat} : cutD xs none (some (m : Int)) = xs.take m := by
  unfold cutD
  rw [HT.sIx_none, HT.sIx_nat, List.drop_zero, Nat.sub_zero]
  by_cases h : m ≤ xs.length
  · rw [Nat.min_eq_left h]
  · rw [Nat.min_eq_right (by omega), List.take_length, List.take_of_length_le (by omega)]
def gTwo : GF := gAny 2 (fun ds => ∃ w, ds = [w] ∧ WorldP w) (fun ds d => Gd' 10 d)
theorem put_ok {r : List D} {i : Int} {x : D} (h0 : 0 ≤ i) (h1 : i < r.length) (h2 : r.length ≤ 1000) : sPut [.tuple r, .int i, x] = some (.tuple (r.set i.toNat x)) := if_pos ⟨h0, h1, h2⟩
theorem set_all {r : List D} {i : Nat} {x : D} {k : Nat} (h : ∀ d ∈ r, Gd' k d) (hx : Gd' k x) : ∀ d ∈ r.set i x, Gd' k d := fun d m => by
  rcases List.mem_or_eq_of_mem_set m with m | rfl
  · exact h d m
  · exact hx
section
variable {P : Program} {w : World} {K : PySem.W.Frag} {mg : Str → Option Value} {base : Heap}
theorem ok_two {f : Addr} {fd : FuncData} (F : Fun K "_law_two" "_law_two" s_law_two f fd) (C__law_one : Cl P w K mg base 2 "_law_one" ["_law_drawn", "_law_wares"] (spN 1 gOne)) (C__law_put : Cl P w K mg base 1 "_law_put" ["_law_row", "_law_spot", "_law_thing"] (spD 3 sPut)) : FnOk P w K mg base CX0 3 f fd ["_law_drawn", "_law_world_here"] (spN 1 gTwo) := by
  refine okFnN F sc_law_two rfl fun cdv A outer s H E hr => ⟨_, (nSs_cons (nS_asg (K := K) (p := .nm 2) (ps_set (i := 2) sc_law_two.nd rfl (.inl rfl) (nE_pure (dE_lst (dA_cons (dE_tup (dA_cons (dE_c (μ := true) pe_int) (dA_cons (dE_c (μ := true) pe_int) (dA_nil (μ := true))))) (dA_cons (dE_tup (dA_cons (dE_c (μ := true) pe_int) (dA_cons (dE_tup (dA_nil (μ := true))) (dA_nil (μ := true))))) (dA_cons (dE_tup (dA_cons (dE_c (μ := true) pe_int) (dA_cons (dE_c (μ := true) pe_non) (dA_nil (μ := true))))) (dA_cons (dE_tup (dA_cons (dE_c (μ := true) pe_int) (dA_cons (dE_c (μ := true) pe_int) (dA_nil (μ := true))))) (dA_nil (μ := true))))))))))
  (nSs_cons (nS_asg (K := K) (p := .nm 3) (ps_set (i := 3) sc_law_two.nd rfl (.inl rfl) (nE_pure (dE_lst (dA_cons (dE_tup (dA_cons (dE_c (μ := true) pe_int) (dA_cons (dE_op o_add (dE_tup (dA_cons (dE_tup (dA_cons (dE_c (μ := true) pe_int) (dA_nil (μ := true)))) (dA_nil (μ := true)))) (dE_sl (dE_ix (dE_var (μ := true) (pv 1)) (dE_c (μ := true) pe_int)) dO_none (dO_some (dE_c (μ := true) pe_int)))) (dA_nil (μ := true))))) (dA_cons (dE_tup (dA_cons (dE_c (μ := true) pe_int) (dA_cons (dE_op o_add (dE_tup (dA_cons (dE_tup (dA_cons (dE_c (μ := true) pe_int) (dA_nil (μ := true)))) (dA_nil (μ := true)))) (dE_sl (dE_ix (dE_var (μ := true) (pv 1)) (dE_c (μ := true) pe_int)) dO_none (dO_some (dE_c (μ := true) pe_int)))) (dA_nil (μ := true))))) (dA_cons (dE_tup (dA_cons (dE_c (μ := true) pe_int) (dA_cons (dE_tup (dA_cons (dE_c (μ := true) pe_str) (dA_cons (dE_c (μ := true) pe_int) (dA_nil (μ := true))))) (dA_nil (μ := true))))) (dA_cons (dE_tup (dA_cons (dE_c (μ := true) pe_int) (dA_cons (dE_tup (dA_cons (dE_tup (dA_cons (dE_c (μ := true) pe_str) (dA_cons (dE_c (μ := true) pe_int) (dA_cons (dE_c (μ := true) pe_int) (dA_cons (dE_c (μ := true) pe_int) (dA_cons (dE_c (μ := true) pe_int) (dA_nil (μ := true)))))))) (dA_nil (μ := true)))) (dA_nil (μ := true))))) (dA_nil (μ := true))))))))))
  (nSs_cons (nS_par (ps_par (i := 4) (j := 5) (by rfl) sc_law_two.nd rfl rfl (by decide) rfl rfl (nA_cons (nE_draw C__law_one (hr.mono (by omega)) (by rfl) (pv 0) (nA_cons (nE_pure (dE_op o_add (dE_var (μ := true) (pv 2)) (dE_var (μ := true) (pv 3)))) nA_nil)) (nA_cons (nE_draw C__law_one (hr.mono (by omega)) (by rfl) (pv 0) (nA_cons (nE_pure (dE_op o_add (dE_var (μ := true) (pv 2)) (dE_var (μ := true) (pv 3)))) nA_nil)) nA_nil)) (by rfl)))
  (nSs_one (nS_retL (ps_ret (dE_cl C__law_put (hr.mono (by omega)) (by rfl) (dA_cons (dE_cl C__law_put (hr.mono (by omega)) (by rfl) (dA_cons (dE_var (μ := true) (pv 1)) (dA_cons (dE_ix (dE_var (μ := true) (pv 4)) (dE_c (μ := true) pe_int)) (dA_cons (dE_ix (dE_var (μ := true) (pv 4)) (dE_c (μ := true) pe_int)) (dA_nil (μ := true)))))) (dA_cons (dE_ix (dE_var (μ := true) (pv 5)) (dE_c (μ := true) pe_int)) (dA_cons (dE_ix (dE_var (μ := true) (pv 5)) (dE_c (μ := true) pe_int)) (dA_nil (μ := true)))))))))))), fun ds b Q l h => ?_⟩
  obtain ⟨⟨w0, rfl, hw⟩, hb, q⟩ := h
  obtain ⟨n, ks, ss, ws, rfl, n1, n6, hk, ⟨s6, hs⟩, w8, hws⟩ := gWorld' hw
  let so : List D := [.tuple [.int 0, .int 0], .tuple [.int 1, .tuple []], .tuple [.int 2, .none], .tuple [.int 3, .int 5]]
  let wi : List D := [.tuple [.int 2, .tuple ([PyData.tuple [.int 5]] ++ ss.take 5)], .tuple [.int 3, .tuple ([PyData.tuple [.int 5]] ++ ws.take 7)], .tuple [.int 1, .tuple [S "a", .int 5]], .tuple [.int 2, .tuple [.tuple [S "?", .int 0, .int 0, .int 0, .int 1]]]]
  let W : D := .tuple [.int n, .tuple ks, .tuple ss, .tuple ws]
  have e1 : addD (.tuple [.tuple [.int 5]]) (.tuple (cutD ss none (some 5))) = some (.tuple ([PyData.tuple [.int 5]] ++ ss.take 5)) := by
    rw [show (some (5 : Int)) = some ((5 : Nat) : Int) from rfl, cut_to']
    exact add_tup (by rw [List.length_take]; exact sz (by simp; omega))
  have e2 : addD (.tuple [.tuple [.int 5]]) (.tuple (cutD ws none (some 7))) = some (.tuple ([PyData.tuple [.int 5]] ++ ws.take 7)) := by
    rw [show (some (7 : Int)) = some ((7 : Nat) : Int) from rfl, cut_to']
    exact add_tup (by rw [List.length_take]; exact sz (by simp; omega))
  refine ⟨.list so, rfl, [some .pool, some (.dat W), some (.dat (.list so)), none, none, none], rfl, ?_⟩
  refine ⟨.list wi, ?_, [some .pool, some (.dat W), some (.dat (.list so)), some (.dat (.list wi)), none, none], rfl, ?_⟩
  · have h1 : eTup (aCons (eC (.int 2)) (aCons (Dl.e2 addD (eTup (aCons (eTup (aCons (eC (.int 5)) aNil)) aNil)) (eSl (Dl.e2 ixD (eVar 1) (eC (.int 2))) pNone (pSome (eC (.int 5))))) aNil)) (shutR true [some .pool, some (.dat W), some (.dat (.list so)), none, none, none]) = some (.tuple [.int 2, .tuple ([PyData.tuple [.int 5]] ++ ss.take 5)]) := by
      unfold eTup
      rw [ev_cons rfl (ev_cons (ev_e2 (a := .tuple [.tuple [.int 5]]) (b := .tuple (cutD ss none (some 5))) rfl rfl e1) rfl)]
      rfl
    have h2 : eTup (aCons (eC (.int 3)) (aCons (Dl.e2 addD (eTup (aCons (eTup (aCons (eC (.int 5)) aNil)) aNil)) (eSl (Dl.e2 ixD (eVar 1) (eC (.int 3))) pNone (pSome (eC (.int 7))))) aNil)) (shutR true [some .pool, some (.dat W), some (.dat (.list so)), none, none, none]) = some (.tuple [.int 3, .tuple ([PyData.tuple [.int 5]] ++ ws.take 7)]) := by
      unfold eTup
      rw [ev_cons rfl (ev_cons (ev_e2 (a := .tuple [.tuple [.int 5]]) (b := .tuple (cutD ws none (some 7))) rfl rfl e2) rfl)]
      rfl
    unfold eLst
    rw [ev_cons h1 (ev_cons h2 rfl)]
    rfl
  have all : ∀ d ∈ so ++ wi, ∃ (i : Int) (x : D), d = .tuple [.int i, x] ∧ 0 ≤ i ∧ i < 4 ∧ Gd' 8 x := by
    have t5 : Gd' 4 (.tuple [.int 5]) := gT1 (gI _ 3)
    have p1 : Gd' 8 (.tuple ([PyData.tuple [.int 5]] ++ ss.take 5)) := (gT (k := 4) (fun d m => by
      rcases List.mem_append.mp m with m | m
      · rw [List.mem_singleton.mp m]; exact t5
      · exact (hs d (List.mem_of_mem_take m)).up (by omega)) (by rw [List.length_append, List.length_take]; simp; omega) (by omega)).up (by omega)
    have p2 : Gd' 8 (.tuple ([PyData.tuple [.int 5]] ++ ws.take 7)) := (gT (k := 4) (fun d m => by
      rcases List.mem_append.mp m with m | m
      · rw [List.mem_singleton.mp m]; exact t5
      · exact (hws d (List.mem_of_mem_take m)).up (by omega)) (by rw [List.length_append, List.length_take]; simp; omega) (by omega)).up (by omega)
    intro d m
    have m : d = PyData.tuple [.int 0, .int 0] ∨ d = PyData.tuple [.int 1, .tuple []] ∨ d = PyData.tuple [.int 2, .none] ∨ d = PyData.tuple [.int 3, .int 5] ∨ d = PyData.tuple [.int 2, .tuple ([PyData.tuple [.int 5]] ++ ss.take 5)] ∨ d = PyData.tuple [.int 3, .tuple ([PyData.tuple [.int 5]] ++ ws.take 7)] ∨ d = PyData.tuple [.int 1, .tuple [S "a", .int 5]] ∨ d = PyData.tuple [.int 2, .tuple [.tuple [S "?", .int 0, .int 0, .int 0, .int 1]]] := by
      rcases List.mem_append.mp m with m | m
      · rcases List.mem_cons.mp m with e | m
        · exact .inl e
        rcases List.mem_cons.mp m with e | m
        · exact .inr (.inl e)
        rcases List.mem_cons.mp m with e | m
        · exact .inr (.inr (.inl e))
        · exact .inr (.inr (.inr (.inl (List.mem_singleton.mp m))))
      · rcases List.mem_cons.mp m with e | m
        · exact .inr (.inr (.inr (.inr (.inl e))))
        rcases List.mem_cons.mp m with e | m
        · exact .inr (.inr (.inr (.inr (.inr (.inl e)))))
        rcases List.mem_cons.mp m with e | m
        · exact .inr (.inr (.inr (.inr (.inr (.inr (.inl e))))))
        · exact .inr (.inr (.inr (.inr (.inr (.inr (.inr (List.mem_singleton.mp m)))))))
    rcases m with rfl | rfl | rfl | rfl | rfl | rfl | rfl | rfl
    · exact ⟨_, _, rfl, by decide, by decide, gI _ 8⟩
    · exact ⟨_, _, rfl, by decide, by decide, gT0⟩
    · exact ⟨_, _, rfl, by decide, by decide, gNone 8⟩
    · exact ⟨_, _, rfl, by decide, by decide, gI _ 8⟩
    · exact ⟨_, _, rfl, by decide, by decide, p1⟩
    · exact ⟨_, _, rfl, by decide, by decide, p2⟩
    · exact ⟨_, _, rfl, by decide, by decide, gT2 (gS' 7) (gI _ 7)⟩
    · exact ⟨_, _, rfl, by decide, by decide, gT1 (gT5 (gS' 6) (gI _ 6) (gI _ 6) (gI _ 6) (gI _ 6))⟩
  have cat : addD (.list so) (.list wi) = some (.list (so ++ wi)) := add_lst (sz (by show 4 + 4 ≤ 100000; decide))
  refine wOne (x := .list (so ++ wi)) (items := so ++ wi) rfl (ev_e2 (a := .list so) (b := .list wi) rfl rfl cat) rfl (by show 0 < 8; decide) (by show 8 ≤ 1000; decide) (by omega) fun d1 b1 m1 h1 => wOne (x := .list (so ++ wi)) (items := so ++ wi) rfl (ev_e2 (a := .list so) (b := .list wi) rfl rfl cat) rfl (by show 0 < 8; decide) (by show 8 ≤ 1000; decide) (by omega) fun d2 b2 m2 h2 => ⟨_, rfl, _, rfl, d1, d2, rfl, ?_⟩
  obtain ⟨i1, x1, rfl, i10, i11, g1⟩ := all d1 m1
  obtain ⟨i2, x2, rfl, i20, i21, g2⟩ := all d2 m2
  have gw : ∀ d ∈ [PyData.int n, .tuple ks, .tuple ss, .tuple ws], Gd' 8 d := by
    intro d m
    rcases List.mem_cons.mp m with rfl | m
    · exact gI _ 8
    rcases List.mem_cons.mp m with rfl | m
    · exact gKds hk 8
    rcases List.mem_cons.mp m with rfl | m
    · exact (gT (k := 1) hs (by omega) (by omega)).up (by omega)
    · rw [List.mem_singleton.mp m]
      exact (gT (k := 3) hws (by omega) (by omega)).up (by omega)
  refine ⟨.tuple (([PyData.int n, .tuple ks, .tuple ss, .tuple ws].set i1.toNat x1).set i2.toNat x2), ?_, ?_⟩
  · exact ev_call (ev_cons (ev_call (ds := [W, .int i1, x1]) rfl rfl (put_ok i10 (by show i1 < 4; exact i11) (by show 4 ≤ 1000; decide))) (ev_cons (d := .int i2) rfl (ev_cons (d := x2) rfl rfl))) rfl (put_ok i20 (by rw [List.length_set]; exact i21) (by rw [List.length_set]; show 4 ≤ 1000; decide))
  · exact q _ b2 ((gT (k := 8) (set_all (set_all gw g1) g2) (by rw [List.length_set, List.length_set]; show 4 ≤ 1000; decide) (by omega)).up (by omega)) (by omega)
end
end Dl
namespace Dl
open PySem PySem.Spec PyProof.Rows L2 Rt
def Fd (m : Nat) (fd : List D) : Prop := fd.length ≤ m ∧ ∀ x ∈ fd, Gd' 10 x
theorem Fd.app {m k : Nat} {a b : List D} (ha : Fd m a) (hb : Fd k b) : Fd (m + k) (a ++ b) := ⟨by rw [List.length_append]; have := ha.1; have := hb.1; omega, fun x hx => by
  rcases List.mem_append.mp hx with h | h
  · exact ha.2 x h
  · exact hb.2 x h⟩
theorem Fd.one {x : D} (h : Gd' 10 x) : Fd 1 [x] := ⟨by simp, fun y m => by rw [List.mem_singleton.mp m]; exact h⟩
theorem Fd.two {x y : D} (h : Gd' 10 x) (h2 : Gd' 10 y) : Fd 2 [x, y] := (Fd.one h).app (Fd.one h2)
theorem Fd.sz {m : Nat} {a : List D} (h : Fd m a) (hm : m ≤ 1000) : a.length < sizeLine := szl (by have := h.1; omega)
theorem forN_all {p : Pat} {body : WP Out} {b : Nat} {Q : Out → Nat → Prop} (N : Nat) (I : Nat → Rho → Prop) : ∀ (items : List D) (k : Nat) (ρ : Rho), k + items.length ≤ N → I k ρ → (∀ x ∈ items, ∀ k ρ, k < N → I k ρ → ∃ ρ1, bindP p x ρ = some ρ1 ∧ ∀ Q' : Out → Nat → Prop, (∀ ρ2, I (k + 1) ρ2 → Q' (.nx ρ2) b) → body.w ρ1 b Q') → (∀ ρ', I (k + items.length) ρ' → Q (.nx ρ') b) → forN p body items ρ b Q
  | [], k, ρ, _, i, _, q => q ρ i
  | x :: xs, k, ρ, hN, i, hb, q => by
    rw [List.length_cons] at hN
    obtain ⟨ρ1, e1, hw⟩ := hb x (by simp) k ρ (by omega) i
    refine ⟨ρ1, e1, hw _ fun ρ2 i2 => forN_all N I xs (k + 1) ρ2 (by omega) i2 (fun y hy => hb y (by simp [hy])) fun ρ' i' => q ρ' ?_⟩
    rw [List.length_cons, show k + (xs.length + 1) = k + 1 + xs.length by omega]
    exact i'
theorem ev_tup {g : Rho → Option (List D)} {ρ : Rho} {ds : List D} (h : g ρ = some ds) (hl : ds.length ≤ 1000) : eTup g ρ = some (.tuple ds) := by
  unfold eTup
  rw [h]
  exact if_pos (sz (by omega))
theorem ev_lst {g : Rho → Option (List D)} {ρ : Rho} {ds : List D} (h : g ρ = some ds) (hl : ds.length ≤ 1000) : eLst g ρ = some (.list ds) := by
  unfold eLst
  rw [h]
  exact if_pos (sz (by omega))
def gEdges : GF := gAny 0 (fun ds => ∃ w, ds = [w] ∧ WorldP w) (fun ds d => ∃ fd, d = .list fd ∧ Fd 100 fd)
theorem gR {k : Nat} {x : D} (m : Nat) (h : Gd' k x) (hk : k ≤ 62 := by omega) (hm : m ≤ 1000 := by omega) : Gd' (k + 1) (.tuple (List.replicate m [x]).flatten) := gT (fun d hd => by
  obtain ⟨l, hl, hd⟩ := List.mem_flatten.mp hd
  rw [(List.mem_replicate.mp hl).2] at hd
  rw [List.mem_singleton.mp hd]
  exact h) (by rw [rep_len]; simp; omega) hk
section
variable {P : Program} {w : World} {K : PySem.W.Frag} {mg : Str → Option Value} {base : Heap}
theorem ok_edges {f : Addr} {fd : FuncData} (F : Fun K "_law_edges" "_law_edges" s_law_edges f fd) (m_tuple : mg "tuple" = none) (m_range : mg "range" = none) (C__law_put : Cl P w K mg base 1 "_law_put" ["_law_row", "_law_spot", "_law_thing"] (spD 3 sPut)) : FnOk P w K mg base CX0 2 f fd ["_law_drawn", "_law_world_here"] (spN 1 gEdges) := by
  refine okFnN F sc_law_edges rfl fun cdv A outer s H E hr => ⟨_, (nSs_cons (nS_asg (K := K) (p := (.tp (.cons (.nm 2) (.cons (.nm 3) (.cons (.nm 4) (.cons (.nm 5) .nil)))))) (ps_asg (nE_pure (dE_var (μ := true) (pv 1))) (pg_tup (by rfl) (pgs_cons (pg_name (i := 2) sc_law_edges.nd rfl (.inl rfl)) (pgs_cons (pg_name (i := 3) sc_law_edges.nd rfl (.inl rfl)) (pgs_cons (pg_name (i := 4) sc_law_edges.nd rfl (.inl rfl)) (pgs_cons (pg_name (i := 5) sc_law_edges.nd rfl (.inl rfl)) pgs_nil)))))))
  (nSs_cons (nS_asg (K := K) (p := .nm 6) (ps_set (i := 6) sc_law_edges.nd rfl (.inl rfl) (nE_pure (dE_ix (dE_var (μ := true) (pv 3)) (dE_c (μ := true) pe_int)))))
  (nSs_cons (nS_asg (K := K) (p := .nm 7) (ps_set (i := 7) sc_law_edges.nd rfl (.inl rfl) (nE_pure (dE_tup (dA_cons (dE_var (μ := true) (pv 6)) (dA_cons (dE_c (μ := true) pe_int) (dA_cons (dE_op o_sub (dE_var (μ := true) (pv 2)) (dE_c (μ := true) pe_int)) (dA_cons (dE_op o_pow (dE_c (μ := true) pe_int) (dE_c (μ := true) pe_int)) (dA_cons (dE_c (μ := true) pe_int) (dA_nil (μ := true)))))))))))
  (nSs_cons (nS_asg (K := K) (p := .nm 8) (ps_set (i := 8) sc_law_edges.nd rfl (.inl rfl) (nE_pure (dE_tup (dA_cons (dE_var (μ := true) (pv 6)) (dA_cons (dE_op o_mulX (dE_tup (dA_cons (dE_tup (dA_cons (dE_var (μ := true) (pv 6)) (dA_cons (dE_c (μ := true) pe_int) (dA_cons (dE_c (μ := true) pe_int) (dA_nil (μ := true)))))) (dA_nil (μ := true)))) (dE_c (μ := true) pe_int)) (dA_cons (dE_c (μ := true) pe_str) (dA_cons (dE_tupRg rfl (by rfl) m_tuple (by rfl) m_range (dE_var (μ := true) (pv 2))) (dA_cons (dE_c (μ := true) pe_int) (dA_nil (μ := true)))))))))))
  (nSs_cons (nO_lc (K := K) (p := (.nm 9)) (ps_setLc (i := 10) (own := [("_law_number", 9)]) (g := gP K (.nm 9)) rfl sc_law_edges.nd rfl rfl (sw_true rfl rfl rfl (by decide +kernel)) (nI_pure (dI_seq (dE_lst (dA_cons (dE_c (μ := true) pe_int) (dA_cons (dE_c (μ := true) pe_int) (dA_cons (dE_c (μ := true) pe_bl) (dA_cons (dE_c (μ := true) pe_str) (dA_nil (μ := true))))))))) (blkOk_by (own := [("_law_number", 9)]) (N := ["_law_drawn", "_law_world_here", "_law_size", "_law_kinds_here", "_law_sources", "_law_ways", "_law_kind", "_law_source_here", "_law_way_here", "_law_number", "_law_found", "_law_spot", "_law_some", "_law_part_here", "_law_thing"]) (sc := defScope s_law_edges) (by decide +kernel)) (fun _ _ _ _ _ => (pg_name (i := 9) sc_law_edges.nd rfl (.inl rfl))) (fun _ _ _ _ _ => nTs_nil) (fun _ _ _ _ _ => (nE_pure (dE_cl C__law_put (hr.mono (by omega)) (by rfl) (dA_cons (dE_var (μ := true) (pv 1)) (dA_cons (dE_c (μ := true) pe_int) (dA_cons (dE_var (μ := true) (pv 9)) (dA_nil (μ := true))))))))))
  (nSs_cons (nS_own (ps_set (i := 10) sc_law_edges.nd rfl (.inl rfl) (nO_cat (pv 10) (nE_pure (dE_lst (dA_cons (dE_tup (dA_cons (dE_c (μ := true) pe_int) (dA_cons (dE_var (μ := true) (pv 3)) (dA_cons (dE_op o_mulX (dE_tup (dA_cons (dE_var (μ := true) (pv 7)) (dA_nil (μ := true)))) (dE_c (μ := true) pe_int)) (dA_cons (dE_op o_mulX (dE_tup (dA_cons (dE_var (μ := true) (pv 8)) (dA_nil (μ := true)))) (dE_c (μ := true) pe_int)) (dA_nil (μ := true))))))) (dA_cons (dE_tup (dA_cons (dE_c (μ := true) pe_int) (dA_cons (dE_var (μ := true) (pv 3)) (dA_cons (dE_op o_mulX (dE_tup (dA_cons (dE_var (μ := true) (pv 7)) (dA_nil (μ := true)))) (dE_c (μ := true) pe_int)) (dA_cons (dE_tup (dA_nil (μ := true))) (dA_nil (μ := true))))))) (dA_nil (μ := true)))))))))
  (nSs_cons (nS_app (K := K) (ps_expr (pe_bm PySem.F.plainAttrs_list PySem.F.slot_list_append PySem.F.type_list_append mt_append (pv 10) (nA_cons (nE_pure (dE_tup (dA_cons (dE_c (μ := true) pe_int) (dA_cons (dE_var (μ := true) (pv 3)) (dA_cons (dE_tup (dA_nil (μ := true))) (dA_cons (dE_op o_mulX (dE_tup (dA_cons (dE_var (μ := true) (pv 8)) (dA_nil (μ := true)))) (dE_c (μ := true) pe_int)) (dA_nil (μ := true)))))))) nA_nil))))
  (nSs_cons (nS_own (ps_set (i := 10) sc_law_edges.nd rfl (.inl rfl) (nO_cat (pv 10) (nE_pure (dE_lst (dA_cons (dE_tup (dA_cons (dE_c (μ := true) pe_int) (dA_cons (dE_tup (dA_cons (dE_c (μ := true) pe_str) (dA_cons (dE_c (μ := true) pe_str) (dA_cons (dE_c (μ := true) pe_str) (dA_cons (dE_c (μ := true) pe_str) (dA_nil (μ := true))))))) (dA_cons (dE_tup (dA_nil (μ := true))) (dA_cons (dE_tup (dA_nil (μ := true))) (dA_nil (μ := true))))))) (dA_cons (dE_tup (dA_cons (dE_c (μ := true) pe_int) (dA_cons (dE_tup (dA_cons (dE_c (μ := true) pe_str) (dA_cons (dE_c (μ := true) pe_str) (dA_cons (dE_c (μ := true) pe_str) (dA_cons (dE_c (μ := true) pe_str) (dA_cons (dE_c (μ := true) pe_str) (dA_nil (μ := true)))))))) (dA_cons (dE_tup (dA_nil (μ := true))) (dA_cons (dE_tup (dA_nil (μ := true))) (dA_nil (μ := true))))))) (dA_cons (dE_tup (dA_cons (dE_c (μ := true) pe_int) (dA_cons (dE_tup (dA_nil (μ := true))) (dA_cons (dE_tup (dA_nil (μ := true))) (dA_cons (dE_tup (dA_nil (μ := true))) (dA_nil (μ := true))))))) (dA_nil (μ := true))))))))))
  (nSs_cons (nS_own (ps_set (i := 10) sc_law_edges.nd rfl (.inl rfl) (nO_cat (pv 10) (nE_pure (dE_lst (dA_cons (dE_tup (dA_cons (dE_c (μ := true) pe_int) (dA_cons (dE_tup (dA_cons (dE_c (μ := true) pe_str) (dA_cons (dE_c (μ := true) pe_str) (dA_nil (μ := true))))) (dA_cons (dE_tup (dA_nil (μ := true))) (dA_cons (dE_tup (dA_nil (μ := true))) (dA_nil (μ := true))))))) (dA_cons (dE_tup (dA_cons (dE_c (μ := true) pe_int) (dA_cons (dE_tup (dA_cons (dE_c (μ := true) pe_str) (dA_cons (dE_c (μ := true) pe_str) (dA_nil (μ := true))))) (dA_cons (dE_tup (dA_nil (μ := true))) (dA_cons (dE_tup (dA_nil (μ := true))) (dA_nil (μ := true))))))) (dA_cons (dE_tup (dA_cons (dE_c (μ := true) pe_int) (dA_cons (dE_tup (dA_cons (dE_op o_mulX (dE_c (μ := true) pe_str) (dE_c (μ := true) pe_int)) (dA_nil (μ := true)))) (dA_cons (dE_tup (dA_nil (μ := true))) (dA_cons (dE_tup (dA_nil (μ := true))) (dA_nil (μ := true))))))) (dA_cons (dE_tup (dA_cons (dE_c (μ := true) pe_int) (dA_cons (dE_tup (dA_cons (dE_c (μ := true) pe_str) (dA_nil (μ := true)))) (dA_cons (dE_tup (dA_nil (μ := true))) (dA_cons (dE_tup (dA_nil (μ := true))) (dA_nil (μ := true))))))) (dA_nil (μ := true)))))))))))
  (nSs_cons (nS_for (K := K) (p := (.tp (.cons (.nm 11) (.cons (.nm 9) .nil)))) (ps_for PassesOwn.never rfl (nI_pure (dI_seq (dE_lst (dA_cons (dE_tup (dA_cons (dE_c (μ := true) pe_int) (dA_cons (dE_c (μ := true) pe_int) (dA_nil (μ := true))))) (dA_cons (dE_tup (dA_cons (dE_c (μ := true) pe_int) (dA_cons (dE_neg (dE_c (μ := true) pe_int)) (dA_nil (μ := true))))) (dA_cons (dE_tup (dA_cons (dE_c (μ := true) pe_int) (dA_cons (dE_var (μ := true) (pv 2)) (dA_nil (μ := true))))) (dA_cons (dE_tup (dA_cons (dE_c (μ := true) pe_int) (dA_cons (dE_neg (dE_c (μ := true) pe_int)) (dA_nil (μ := true))))) (dA_cons (dE_tup (dA_cons (dE_c (μ := true) pe_int) (dA_cons (dE_op o_add (dE_op o_pow (dE_c (μ := true) pe_int) (dE_c (μ := true) pe_int)) (dE_c (μ := true) pe_int)) (dA_nil (μ := true))))) (dA_cons (dE_tup (dA_cons (dE_c (μ := true) pe_int) (dA_cons (dE_neg (dE_c (μ := true) pe_int)) (dA_nil (μ := true))))) (dA_cons (dE_tup (dA_cons (dE_c (μ := true) pe_int) (dA_cons (dE_c (μ := true) pe_int) (dA_nil (μ := true))))) (dA_cons (dE_tup (dA_cons (dE_c (μ := true) pe_int) (dA_cons (dE_c (μ := true) pe_int) (dA_nil (μ := true))))) (dA_cons (dE_tup (dA_cons (dE_c (μ := true) pe_int) (dA_cons (dE_c (μ := true) pe_bl) (dA_nil (μ := true))))) (dA_nil (μ := true)))))))))))))) (pg_tup (by rfl) (pgs_cons (pg_name (i := 11) sc_law_edges.nd rfl (.inl rfl)) (pgs_cons (pg_name (i := 9) sc_law_edges.nd rfl (.inl rfl)) pgs_nil)))
    (nSs_one (nS_app (K := K) (ps_expr (pe_bm PySem.F.plainAttrs_list PySem.F.slot_list_append PySem.F.type_list_append mt_append (pv 10) (nA_cons (nE_pure (dE_tup (dA_cons (dE_var (μ := true) (pv 2)) (dA_cons (dE_var (μ := true) (pv 3)) (dA_cons (dE_tup (dA_cons (dE_var (μ := true) (pv 7)) (dA_cons (dE_cl C__law_put (hr.mono (by omega)) (by rfl) (dA_cons (dE_var (μ := true) (pv 7)) (dA_cons (dE_var (μ := true) (pv 11)) (dA_cons (dE_var (μ := true) (pv 9)) (dA_nil (μ := true)))))) (dA_nil (μ := true))))) (dA_cons (dE_var (μ := true) (pv 5)) (dA_nil (μ := true)))))))) nA_nil)))))))
  (nSs_cons (nS_asg (K := K) (p := .nm 12) (ps_set (i := 12) sc_law_edges.nd rfl (.inl rfl) (nE_pure (dE_lst (dA_cons (dE_tup (dA_cons (dE_var (μ := true) (pv 6)) (dA_cons (dE_c (μ := true) pe_int) (dA_cons (dE_c (μ := true) pe_int) (dA_nil (μ := true)))))) (dA_cons (dE_tup (dA_cons (dE_var (μ := true) (pv 6)) (dA_cons (dE_c (μ := true) pe_int) (dA_cons (dE_c (μ := true) pe_int) (dA_nil (μ := true)))))) (dA_cons (dE_tup (dA_cons (dE_var (μ := true) (pv 6)) (dA_cons (dE_c (μ := true) pe_int) (dA_cons (dE_c (μ := true) pe_int) (dA_nil (μ := true)))))) (dA_cons (dE_tup (dA_cons (dE_var (μ := true) (pv 6)) (dA_cons (dE_c (μ := true) pe_int) (dA_cons (dE_c (μ := true) pe_int) (dA_nil (μ := true)))))) (dA_cons (dE_tup (dA_cons (dE_var (μ := true) (pv 6)) (dA_cons (dE_neg (dE_c (μ := true) pe_int)) (dA_cons (dE_c (μ := true) pe_int) (dA_nil (μ := true)))))) (dA_nil (μ := true)))))))))))
  (nSs_cons (nS_asg (K := K) (p := .nm 12) (ps_set (i := 12) sc_law_edges.nd rfl (.inl rfl) (nE_pure (dE_op o_add (dE_var (μ := true) (pv 12)) (dE_lst (dA_cons (dE_tup (dA_cons (dE_var (μ := true) (pv 6)) (dA_cons (dE_c (μ := true) pe_int) (dA_cons (dE_c (μ := true) pe_int) (dA_nil (μ := true)))))) (dA_cons (dE_tup (dA_cons (dE_c (μ := true) pe_str) (dA_cons (dE_c (μ := true) pe_int) (dA_cons (dE_c (μ := true) pe_int) (dA_nil (μ := true)))))) (dA_nil (μ := true)))))))))
  (nSs_cons (nS_for (K := K) (p := (.nm 13)) (ps_for PassesOwn.never rfl (nI_pure (dI_seq (dE_var (μ := true) (pv 12)))) (pg_name (i := 13) sc_law_edges.nd rfl (.inl rfl))
    (nSs_one (nS_app (K := K) (ps_expr (pe_bm PySem.F.plainAttrs_list PySem.F.slot_list_append PySem.F.type_list_append mt_append (pv 10) (nA_cons (nE_pure (dE_tup (dA_cons (dE_var (μ := true) (pv 2)) (dA_cons (dE_var (μ := true) (pv 3)) (dA_cons (dE_var (μ := true) (pv 4)) (dA_cons (dE_tup (dA_cons (dE_var (μ := true) (pv 8)) (dA_cons (dE_cl C__law_put (hr.mono (by omega)) (by rfl) (dA_cons (dE_var (μ := true) (pv 8)) (dA_cons (dE_c (μ := true) pe_int) (dA_cons (dE_tup (dA_cons (dE_ix (dE_ix (dE_var (μ := true) (pv 8)) (dE_c (μ := true) pe_int)) (dE_c (μ := true) pe_int)) (dA_cons (dE_var (μ := true) (pv 13)) (dA_nil (μ := true))))) (dA_nil (μ := true)))))) (dA_nil (μ := true))))) (dA_nil (μ := true)))))))) nA_nil)))))))
  (nSs_cons (nS_for (K := K) (p := (.tp (.cons (.nm 11) (.cons (.nm 14) .nil)))) (ps_for PassesOwn.never rfl (nI_pure (dI_seq (dE_lst (dA_cons (dE_tup (dA_cons (dE_c (μ := true) pe_int) (dA_cons (dE_tup (dA_nil (μ := true))) (dA_nil (μ := true))))) (dA_cons (dE_tup (dA_cons (dE_c (μ := true) pe_int) (dA_cons (dE_op o_add (dE_ix (dE_var (μ := true) (pv 8)) (dE_c (μ := true) pe_int)) (dE_sl (dE_ix (dE_var (μ := true) (pv 8)) (dE_c (μ := true) pe_int)) dO_none (dO_some (dE_c (μ := true) pe_int)))) (dA_nil (μ := true))))) (dA_cons (dE_tup (dA_cons (dE_c (μ := true) pe_int) (dA_cons (dE_c (μ := true) pe_str) (dA_nil (μ := true))))) (dA_cons (dE_tup (dA_cons (dE_c (μ := true) pe_int) (dA_cons (dE_tup (dA_nil (μ := true))) (dA_nil (μ := true))))) (dA_cons (dE_tup (dA_cons (dE_c (μ := true) pe_int) (dA_cons (dE_tup (dA_cons (dE_var (μ := true) (pv 2)) (dA_nil (μ := true)))) (dA_nil (μ := true))))) (dA_cons (dE_tup (dA_cons (dE_c (μ := true) pe_int) (dA_cons (dE_tup (dA_cons (dE_c (μ := true) pe_int) (dA_cons (dE_c (μ := true) pe_int) (dA_nil (μ := true))))) (dA_nil (μ := true))))) (dA_cons (dE_tup (dA_cons (dE_c (μ := true) pe_int) (dA_cons (dE_c (μ := true) pe_int) (dA_nil (μ := true))))) (dA_nil (μ := true)))))))))))) (pg_tup (by rfl) (pgs_cons (pg_name (i := 11) sc_law_edges.nd rfl (.inl rfl)) (pgs_cons (pg_name (i := 14) sc_law_edges.nd rfl (.inl rfl)) pgs_nil)))
    (nSs_one (nS_app (K := K) (ps_expr (pe_bm PySem.F.plainAttrs_list PySem.F.slot_list_append PySem.F.type_list_append mt_append (pv 10) (nA_cons (nE_pure (dE_tup (dA_cons (dE_var (μ := true) (pv 2)) (dA_cons (dE_var (μ := true) (pv 3)) (dA_cons (dE_var (μ := true) (pv 4)) (dA_cons (dE_tup (dA_cons (dE_var (μ := true) (pv 8)) (dA_cons (dE_cl C__law_put (hr.mono (by omega)) (by rfl) (dA_cons (dE_var (μ := true) (pv 8)) (dA_cons (dE_var (μ := true) (pv 11)) (dA_cons (dE_var (μ := true) (pv 14)) (dA_nil (μ := true)))))) (dA_nil (μ := true))))) (dA_nil (μ := true)))))))) nA_nil)))))))
  (nSs_cons (nS_app (K := K) (ps_expr (pe_bm PySem.F.plainAttrs_list PySem.F.slot_list_append PySem.F.type_list_append mt_append (pv 10) (nA_cons (nE_pure (dE_tup (dA_cons (dE_var (μ := true) (pv 2)) (dA_cons (dE_var (μ := true) (pv 3)) (dA_cons (dE_tup (dA_cons (dE_var (μ := true) (pv 7)) (dA_nil (μ := true)))) (dA_cons (dE_tup (dA_cons (dE_cl C__law_put (hr.mono (by omega)) (by rfl) (dA_cons (dE_var (μ := true) (pv 8)) (dA_cons (dE_c (μ := true) pe_int) (dA_cons (dE_c (μ := true) pe_int) (dA_nil (μ := true)))))) (dA_nil (μ := true)))) (dA_nil (μ := true)))))))) nA_nil))))
  (nSs_one (nS_retL (ps_ret (dE_op o_add (dE_var (μ := true) (pv 10)) (dE_lst (dA_cons (dE_tup (dA_cons (dE_var (μ := true) (pv 2)) (dA_cons (dE_var (μ := true) (pv 3)) (dA_cons (dE_tup (dA_cons (dE_var (μ := true) (pv 7)) (dA_nil (μ := true)))) (dA_cons (dE_tup (dA_cons (dE_cl C__law_put (hr.mono (by omega)) (by rfl) (dA_cons (dE_var (μ := true) (pv 8)) (dA_cons (dE_c (μ := true) pe_int) (dA_cons (dE_c (μ := true) pe_int) (dA_nil (μ := true)))))) (dA_nil (μ := true)))) (dA_nil (μ := true))))))) (dA_nil (μ := true))))))))))))))))))))))), fun ds b Q l h => ?_⟩
  obtain ⟨⟨w0, rfl, hw⟩, hb, q⟩ := h
  obtain ⟨n, ks, ss, ws, rfl, n1, n6, hk, ⟨s6, hs⟩, w8, hws⟩ := gWorld' hw
  obtain ⟨kd, kr, ek⟩ : ∃ kd kr, ks = kd :: kr := by
    cases ks with
    | nil => exact absurd hk.1 (by decide)
    | cons a b => exact ⟨a, b, rfl⟩
  have nkd := hk.2.2 kd (by rw [ek]; simp)
  let W : D := .tuple [.int n, .tuple ks, .tuple ss, .tuple ws]
  let SR : D := .tuple [kd, .int 20, .int (n - 1), .int 1000000, .int 9]
  let PT : D := .tuple [kd, .int 0, .int 20]
  let WY : D := .tuple [kd, .tuple [PT, PT, PT], S "youngest", .tuple (rgD 0 n.toNat), .int 6]
  let R : Option LV → List D → Option LV → Option LV → Option LV → Option LV → Rho := fun nu fd sp so pa th => [some .pool, some (.dat W), some (.dat (.int n)), some (.dat (.tuple ks)), some (.dat (.tuple ss)), some (.dat (.tuple ws)), some (.dat kd), some (.dat SR), some (.dat WY), nu, some (.own fd), sp, so, pa, th]
  have gks : Gd' 7 (.tuple ks) := gKds hk 7
  have gss : Gd' 7 (.tuple ss) := (gT (k := 1) hs (by omega) (by omega)).up (by omega)
  have gws : Gd' 7 (.tuple ws) := (gT (k := 3) hws (by omega) (by omega)).up (by omega)
  have gSR : Gd' 5 SR := gT5 (gNm nkd 4) (gI _ 4) (gI _ 4) (gI _ 4) (gI _ 4)
  have gPT : Gd' 3 PT := gT3 (gNm nkd 2) (gI _ 2) (gI _ 2)
  have gHR : Gd' 4 (.tuple (rgD 0 n.toNat)) := gT (k := 3) (fun d m => by obtain ⟨i, _, rfl⟩ := List.mem_map.mp m; exact gI _ 3) (by rw [rgD_len]; omega) (by omega)
  have gWY : Gd' 5 WY := gT5 (gNm nkd 4) (gT3 gPT gPT gPT) (gS' 4) gHR (gI _ 4)
  refine ⟨W, rfl, [some .pool, some (.dat W), some (.dat (.int n)), some (.dat (.tuple ks)), some (.dat (.tuple ss)), some (.dat (.tuple ws)), none, none, none, none, none, none, none, none, none], rfl, ?_⟩
  have ei : L2.atI ks 0 = some kd := by rw [ek]; exact atI_nat (j := 0) rfl
  refine ⟨kd, ev_e2 (a := .tuple ks) (b := .int 0) rfl rfl ei, [some .pool, some (.dat W), some (.dat (.int n)), some (.dat (.tuple ks)), some (.dat (.tuple ss)), some (.dat (.tuple ws)), some (.dat kd), none, none, none, none, none, none, none, none], rfl, ?_⟩
  refine ⟨SR, rfl, [some .pool, some (.dat W), some (.dat (.int n)), some (.dat (.tuple ks)), some (.dat (.tuple ss)), some (.dat (.tuple ws)), some (.dat kd), some (.dat SR), none, none, none, none, none, none, none], rfl, ?_⟩
  refine ⟨WY, ?_, [some .pool, some (.dat W), some (.dat (.int n)), some (.dat (.tuple ks)), some (.dat (.tuple ss)), some (.dat (.tuple ws)), some (.dat kd), some (.dat SR), some (.dat WY), none, none, none, none, none, none], rfl, ?_⟩
  · have h1 : eTupRg (eVar 2) (shutR true [some .pool, some (.dat W), some (.dat (.int n)), some (.dat (.tuple ks)), some (.dat (.tuple ss)), some (.dat (.tuple ws)), some (.dat kd), some (.dat SR), none, none, none, none, none, none, none]) = some (.tuple (rgD 0 n.toNat)) := if_pos ⟨by omega, by omega⟩
    unfold eTup
    rw [ev_cons (d := kd) rfl (ev_cons (d := .tuple [PT, PT, PT]) rfl (ev_cons (d := S "youngest") rfl (ev_cons h1 rfl)))]
    rfl
  -- found = [put(world, 0, number) for number in ..]
  refine ⟨[.int 0, .int 7, .bool true, S "1"], rfl, ?_⟩
  have gw : ∀ d ∈ [PyData.int n, .tuple ks, .tuple ss, .tuple ws], Gd' 7 d := by
    intro d m
    rcases List.mem_cons.mp m with rfl | m
    · exact gI _ 7
    rcases List.mem_cons.mp m with rfl | m
    · exact gks
    rcases List.mem_cons.mp m with rfl | m
    · exact gss
    · rw [List.mem_singleton.mp m]; exact gws
  refine lcN_all 0 (Gd' 10) [.int 0, .int 7, .bool true, S "1"] b _ (by simp) (fun x hx b Q hb q => ?_) (fun fd b1 lf hf hb1 => ?_)
  · have gx : Gd' 7 x := by
      rcases List.mem_cons.mp hx with rfl | hx
      · exact gI _ 7
      rcases List.mem_cons.mp hx with rfl | hx
      · exact gI _ 7
      rcases List.mem_cons.mp hx with rfl | hx
      · exact gB _ 7
      · rw [List.mem_singleton.mp hx]; exact gS' 7
    refine ⟨_, rfl, _, ev_call (ds := [W, .int 0, x]) rfl rfl (put_ok (by decide) (by show (0 : Int) < 4; decide) (by show 4 ≤ 1000; decide)), q _ b ?_ (by omega)⟩
    exact (gT (k := 7) (set_all gw gx) (by rw [List.length_set]; show 4 ≤ 1000; decide) (by omega)).up (by omega)
  have F0 : Fd 4 fd := ⟨by rw [lf]; show 4 ≤ 4; decide, hf⟩
  refine ⟨fd, rfl, by show 10 < 15; decide, ?_⟩
  -- + two
  refine ⟨fd, rfl, .list [.tuple [.int 6, .tuple ks, .tuple [SR, SR, SR, SR, SR, SR], .tuple [WY, WY, WY, WY, WY, WY, WY, WY]], .tuple [.int 6, .tuple ks, .tuple [SR, SR, SR, SR, SR, SR, SR], .tuple []]], rfl, _, rfl, ?_, _, rfl, by show 10 < 15; decide, ?_⟩
  · have := F0.1; exact sz (by show fd.length + 2 ≤ 100000; omega)
  have F1 := F0.app (Fd.two (x := .tuple [.int 6, .tuple ks, .tuple [SR, SR, SR, SR, SR, SR], .tuple [WY, WY, WY, WY, WY, WY, WY, WY]]) (y := .tuple [.int 6, .tuple ks, .tuple [SR, SR, SR, SR, SR, SR, SR], .tuple []]) (gT4 (gI _ 9) (gks.up (by omega)) ((gR 6 gSR).up (by omega)) ((gR 8 gWY).up (by omega))) (gT4 (gI _ 9) (gks.up (by omega)) ((gR 7 gSR).up (by omega)) gT0))
  generalize fd ++ _ = f1 at F1 ⊢
  -- append
  refine ⟨f1, rfl, .tuple [.int 6, .tuple ks, .tuple [], .tuple [WY, WY, WY, WY, WY, WY, WY, WY, WY]], rfl, _, rfl, _, rfl, F1.sz (by decide), ?_⟩
  have F2 := F1.app (Fd.one (x := .tuple [.int 6, .tuple ks, .tuple [], .tuple [WY, WY, WY, WY, WY, WY, WY, WY, WY]]) (gT4 (gI _ 9) (gks.up (by omega)) gT0 ((gR 9 gWY).up (by omega))))
  generalize f1 ++ _ = f2 at F2 ⊢
  have g0 : ∀ k, Gd' (k + 1) (.tuple []) := fun k => gT0
  -- + three
  refine ⟨f2, rfl, .list [.tuple [.int 6, .tuple [S "a", S "aa", S "ab", S "b"], .tuple [], .tuple []], .tuple [.int 6, .tuple [S "a", S "b", S "c", S "d", S "e"], .tuple [], .tuple []], .tuple [.int 6, .tuple [], .tuple [], .tuple []]], rfl, _, rfl, ?_, _, rfl, by show 10 < 15; decide, ?_⟩
  · have := F2.1; exact sz (by show f2.length + 3 ≤ 100000; omega)
  have F3 := F2.app ((Fd.two (x := .tuple [.int 6, .tuple [S "a", S "aa", S "ab", S "b"], .tuple [], .tuple []]) (y := .tuple [.int 6, .tuple [S "a", S "b", S "c", S "d", S "e"], .tuple [], .tuple []]) (gT4 (gI _ 9) (gT4 (gS' 8) (gS' 8) (gS' 8) (gS' 8)) gT0 gT0) (gT4 (gI _ 9) (gT5 (gS' 8) (gS' 8) (gS' 8) (gS' 8) (gS' 8)) gT0 gT0)).app (Fd.one (x := .tuple [.int 6, .tuple [], .tuple [], .tuple []]) (gT4 (gI _ 9) gT0 gT0 gT0)))
  have F3 : Fd 10 (f2 ++ [.tuple [.int 6, .tuple [S "a", S "aa", S "ab", S "b"], .tuple [], .tuple []], .tuple [.int 6, .tuple [S "a", S "b", S "c", S "d", S "e"], .tuple [], .tuple []], .tuple [.int 6, .tuple [], .tuple [], .tuple []]]) := F3
  generalize f2 ++ _ = f3 at F3 ⊢
  -- + four
  let A9 : D := .str (repS (Str.ofString "a") 9)
  refine ⟨f3, rfl, .list [.tuple [.int 6, .tuple [S "b", S "a"], .tuple [], .tuple []], .tuple [.int 6, .tuple [S "a", S "a"], .tuple [], .tuple []], .tuple [.int 6, .tuple [A9], .tuple [], .tuple []], .tuple [.int 6, .tuple [S "A"], .tuple [], .tuple []]], rfl, _, rfl, ?_, _, rfl, by show 10 < 15; decide, ?_⟩
  · have := F3.1; exact sz (by show f3.length + 4 ≤ 100000; omega)
  have gA9 : Gd' 8 A9 := ⟨by decide +kernel, rfl, Nat.zero_le _⟩
  have F4 : Fd 14 (f3 ++ [.tuple [.int 6, .tuple [S "b", S "a"], .tuple [], .tuple []], .tuple [.int 6, .tuple [S "a", S "a"], .tuple [], .tuple []], .tuple [.int 6, .tuple [A9], .tuple [], .tuple []], .tuple [.int 6, .tuple [S "A"], .tuple [], .tuple []]]) :=
    F3.app ((Fd.two (gT4 (gI _ 9) (gT2 (gS' 8) (gS' 8)) gT0 gT0) (gT4 (gI _ 9) (gT2 (gS' 8) (gS' 8)) gT0 gT0)).app (Fd.two (gT4 (gI _ 9) (gT1 gA9) gT0 gT0) (gT4 (gI _ 9) (gT1 (gS' 8)) gT0 gT0)))
  generalize f3 ++ _ = f4 at F4 ⊢
  -- sources put otherwise
  let L1 : List D := [.tuple [.int 1, .int 21], .tuple [.int 1, .int (-1)], .tuple [.int 2, .int n], .tuple [.int 2, .int (-1)], .tuple [.int 3, .int 1000001], .tuple [.int 3, .int (-1)], .tuple [.int 4, .int 0], .tuple [.int 4, .int 10], .tuple [.int 4, .bool true]]
  have a1 : ∀ d ∈ L1, ∃ (i : Int) (x : D), d = .tuple [.int i, x] ∧ 0 ≤ i ∧ i < 5 ∧ Gd' 4 x := by
    intro d m
    rcases List.mem_cons.mp m with rfl | m
    · exact ⟨_, _, rfl, by decide, by decide, gI _ 4⟩
    rcases List.mem_cons.mp m with rfl | m
    · exact ⟨_, _, rfl, by decide, by decide, gI _ 4⟩
    rcases List.mem_cons.mp m with rfl | m
    · exact ⟨_, _, rfl, by decide, by decide, gI _ 4⟩
    rcases List.mem_cons.mp m with rfl | m
    · exact ⟨_, _, rfl, by decide, by decide, gI _ 4⟩
    rcases List.mem_cons.mp m with rfl | m
    · exact ⟨_, _, rfl, by decide, by decide, gI _ 4⟩
    rcases List.mem_cons.mp m with rfl | m
    · exact ⟨_, _, rfl, by decide, by decide, gI _ 4⟩
    rcases List.mem_cons.mp m with rfl | m
    · exact ⟨_, _, rfl, by decide, by decide, gI _ 4⟩
    rcases List.mem_cons.mp m with rfl | m
    · exact ⟨_, _, rfl, by decide, by decide, gI _ 4⟩
    · rw [List.mem_singleton.mp m]
      exact ⟨_, _, rfl, by decide, by decide, gB _ 4⟩
  have sr4 : ∀ d ∈ [kd, PyData.int 20, .int (n - 1), .int 1000000, .int 9], Gd' 4 d := by
    intro d m
    rcases List.mem_cons.mp m with rfl | m
    · exact gNm nkd 4
    rcases List.mem_cons.mp m with rfl | m
    · exact gI _ 4
    rcases List.mem_cons.mp m with rfl | m
    · exact gI _ 4
    rcases List.mem_cons.mp m with rfl | m
    · exact gI _ 4
    · rw [List.mem_singleton.mp m]; exact gI _ 4
  refine ⟨L1, rfl, forN_all 9 (fun k ρ => ∃ nu fd sp so pa th, ρ = R nu fd sp so pa th ∧ Fd (14 + k) fd) L1 0 _ (by show 0 + 9 ≤ 9; decide) ⟨_, f4, _, _, _, _, rfl, F4⟩ (fun x hx k ρ hk i => ?_) (fun ρ i => ?_)⟩
  · obtain ⟨nu, fd, sp, so, pa, th, rfl, Fk⟩ := i
    obtain ⟨i, x, rfl, i0, i5, gx⟩ := a1 x hx
    refine ⟨R (some (.dat x)) fd (some (.dat (.int i))) so pa th, rfl, fun Q' q' => ?_⟩
    have ep : eCall (gN 3 sPut) (aCons (eVar 7) (aCons (eVar 11) (aCons (eVar 9) aNil))) (shutR true (R (some (.dat x)) fd (some (.dat (.int i))) so pa th)) = some (.tuple ([kd, PyData.int 20, .int (n - 1), .int 1000000, .int 9].set i.toNat x)) := ev_call rfl rfl (put_ok i0 (by show i < 5; exact i5) (by show 5 ≤ 1000; decide))
    have gp : Gd' 5 (.tuple ([kd, PyData.int 20, .int (n - 1), .int 1000000, .int 9].set i.toNat x)) := gT (set_all sr4 gx) (by rw [List.length_set]; show 5 ≤ 1000; decide) (by omega)
    let T : D := .tuple [.int n, .tuple ks, .tuple [SR, .tuple ([kd, PyData.int 20, .int (n - 1), .int 1000000, .int 9].set i.toNat x)], .tuple ws]
    refine ⟨fd, rfl, T, ?_, [T], rfl, T, rfl, szl (by have := Fk.1; omega), q' _ ⟨_, _, _, _, _, _, rfl, ?_⟩⟩
    · have e2 : eTup (aCons (eVar 7) (aCons (eCall (gN 3 sPut) (aCons (eVar 7) (aCons (eVar 11) (aCons (eVar 9) aNil)))) aNil)) (shutR true (R (some (.dat x)) fd (some (.dat (.int i))) so pa th)) = some (.tuple [SR, .tuple ([kd, PyData.int 20, .int (n - 1), .int 1000000, .int 9].set i.toNat x)]) := by
        unfold eTup
        rw [ev_cons (d := SR) rfl (ev_cons ep rfl)]
        rfl
      exact ev_tup (ev_cons (d := .int n) rfl (ev_cons (d := .tuple ks) rfl (ev_cons e2 (ev_cons (d := .tuple ws) rfl rfl)))) (by show 4 ≤ 1000; decide)
    · exact Fk.app (Fd.one (gT4 (gI _ 9) (gks.up (by omega)) (gT2 (gSR.up (by omega)) (gp.up (by omega))) (gws.up (by omega))))
  obtain ⟨nu5, f5, sp5, so5, pa5, th5, rfl, F5⟩ := i
  have F5 : Fd 23 f5 := F5
  -- parts put otherwise
  let L2' : List D := [.tuple [kd, .int 20, .int 20], .tuple [kd, .int 20, .int 21], .tuple [kd, .int 21, .int 21], .tuple [kd, .int 3, .int 2], .tuple [kd, .int (-1), .int 2]]
  let L3 : List D := L2' ++ [.tuple [kd, .int 0, .int 0], .tuple [S "zzz", .int 0, .int 0]]
  refine ⟨.list L2', rfl, R nu5 f5 sp5 (some (.dat (.list L2'))) pa5 th5, rfl, ?_⟩
  refine ⟨.list L3, ev_e2 (a := .list L2') (b := .list [.tuple [kd, .int 0, .int 0], .tuple [S "zzz", .int 0, .int 0]]) rfl rfl (add_lst (sz (by show 5 + 2 ≤ 100000; decide))), R nu5 f5 sp5 (some (.dat (.list L3))) pa5 th5, rfl, ?_⟩
  have a3 : ∀ d ∈ L3, Gd' 3 d := by
    have t : ∀ a b, Gd' 3 (.tuple [kd, .int a, .int b]) := fun a b => gT3 (gNm nkd 2) (gI _ 2) (gI _ 2)
    intro d m
    rcases List.mem_append.mp m with m | m
    · rcases List.mem_cons.mp m with rfl | m
      · exact t _ _
      rcases List.mem_cons.mp m with rfl | m
      · exact t _ _
      rcases List.mem_cons.mp m with rfl | m
      · exact t _ _
      rcases List.mem_cons.mp m with rfl | m
      · exact t _ _
      · rw [List.mem_singleton.mp m]; exact t _ _
    · rcases List.mem_cons.mp m with rfl | m
      · exact t _ _
      · rw [List.mem_singleton.mp m]; exact gT3 (gS' 2) (gI _ 2) (gI _ 2)
  have wy4 : ∀ d ∈ [kd, .tuple [PT, PT, PT], S "youngest", .tuple (rgD 0 n.toNat), PyData.int 6], Gd' 5 d := by
    intro d m
    rcases List.mem_cons.mp m with rfl | m
    · exact gNm nkd 5
    rcases List.mem_cons.mp m with rfl | m
    · exact (gT3 gPT gPT gPT).up (by omega)
    rcases List.mem_cons.mp m with rfl | m
    · exact gS' 5
    rcases List.mem_cons.mp m with rfl | m
    · exact gHR.up (by omega)
    · rw [List.mem_singleton.mp m]; exact gI _ 5
  have puts : ∀ (i : Int) (x : D), Gd' 5 x → Gd' 10 (.tuple [.int n, .tuple ks, .tuple ss, .tuple [WY, .tuple ([kd, .tuple [PT, PT, PT], S "youngest", .tuple (rgD 0 n.toNat), PyData.int 6].set i.toNat x)]]) := fun i x gx =>
    gT4 (gI _ 9) (gks.up (by omega)) (gss.up (by omega)) (gT2 (gWY.up (by omega)) ((gT (set_all wy4 gx) (by rw [List.length_set]; show 5 ≤ 1000; decide) (by omega)).up (by omega)))
  refine ⟨L3, rfl, forN_all 7 (fun k ρ => ∃ nu fd sp pa th, ρ = R nu fd sp (some (.dat (.list L3))) pa th ∧ Fd (23 + k) fd) L3 0 _ (by show 0 + 7 ≤ 7; decide) ⟨_, f5, _, _, _, rfl, F5⟩ (fun x hx k ρ hk i => ?_) (fun ρ i => ?_)⟩
  · obtain ⟨nu, fd, sp, pa, th, rfl, Fk⟩ := i
    have gx := a3 x hx
    refine ⟨R nu fd sp (some (.dat (.list L3))) (some (.dat x)) th, rfl, fun Q' q' => ?_⟩
    let T : D := .tuple [.int n, .tuple ks, .tuple ss, .tuple [WY, .tuple ([kd, .tuple [PT, PT, PT], S "youngest", .tuple (rgD 0 n.toNat), PyData.int 6].set (1 : Int).toNat (.tuple [PT, x]))]]
    refine ⟨fd, rfl, T, ?_, [T], rfl, T, rfl, szl (by have := Fk.1; omega), q' _ ⟨_, _, _, _, _, rfl, Fk.app (Fd.one (puts 1 _ ((gT2 gPT gx).up (by omega))))⟩⟩
    have ep : eCall (gN 3 sPut) (aCons (eVar 8) (aCons (eC (.int 1)) (aCons (eTup (aCons (e2 ixD (e2 ixD (eVar 8) (eC (.int 1))) (eC (.int 0))) (aCons (eVar 13) aNil))) aNil))) (shutR true (R nu fd sp (some (.dat (.list L3))) (some (.dat x)) th)) = some (.tuple ([kd, .tuple [PT, PT, PT], S "youngest", .tuple (rgD 0 n.toNat), PyData.int 6].set (1 : Int).toNat (.tuple [PT, x]))) := ev_call (ds := [WY, .int 1, .tuple [PT, x]]) rfl rfl (put_ok (by decide) (by show (1 : Int) < 5; decide) (by show 5 ≤ 1000; decide))
    have e2 : eTup (aCons (eVar 8) (aCons (eCall (gN 3 sPut) (aCons (eVar 8) (aCons (eC (.int 1)) (aCons (eTup (aCons (e2 ixD (e2 ixD (eVar 8) (eC (.int 1))) (eC (.int 0))) (aCons (eVar 13) aNil))) aNil)))) aNil)) (shutR true (R nu fd sp (some (.dat (.list L3))) (some (.dat x)) th)) = some (.tuple [WY, .tuple ([kd, .tuple [PT, PT, PT], S "youngest", .tuple (rgD 0 n.toNat), PyData.int 6].set (1 : Int).toNat (.tuple [PT, x]))]) := by
      exact ev_tup (ev_cons (d := WY) rfl (ev_cons ep rfl)) (by show 2 ≤ 1000; decide)
    exact ev_tup (ev_cons (d := .int n) rfl (ev_cons (d := .tuple ks) rfl (ev_cons (d := .tuple ss) rfl (ev_cons e2 rfl)))) (by show 4 ≤ 1000; decide)
  obtain ⟨nu6, f6, sp6, pa6, th6, rfl, F6⟩ := i
  have F6 : Fd 30 f6 := F6
  -- ways put otherwise
  have a44 : addD (.tuple [PT, PT, PT]) (.tuple [PT]) = some (.tuple [PT, PT, PT, PT]) := add_tup (sz (by show 3 + 1 ≤ 100000; decide))
  let L4 : List D := [.tuple [.int 1, .tuple []], .tuple [.int 1, .tuple [PT, PT, PT, PT]], .tuple [.int 2, S "older"], .tuple [.int 3, .tuple []], .tuple [.int 3, .tuple [.int n]], .tuple [.int 3, .tuple [.int 0, .int 0]], .tuple [.int 4, .int 7]]
  have a4 : ∀ d ∈ L4, ∃ (i : Int) (x : D), d = .tuple [.int i, x] ∧ 0 ≤ i ∧ i < 5 ∧ Gd' 5 x := by
    intro d m
    rcases List.mem_cons.mp m with rfl | m
    · exact ⟨_, _, rfl, by decide, by decide, gT0⟩
    rcases List.mem_cons.mp m with rfl | m
    · exact ⟨_, _, rfl, by decide, by decide, (gT4 gPT gPT gPT gPT).up (by omega)⟩
    rcases List.mem_cons.mp m with rfl | m
    · exact ⟨_, _, rfl, by decide, by decide, gS' 5⟩
    rcases List.mem_cons.mp m with rfl | m
    · exact ⟨_, _, rfl, by decide, by decide, gT0⟩
    rcases List.mem_cons.mp m with rfl | m
    · exact ⟨_, _, rfl, by decide, by decide, gT1 (gI _ 4)⟩
    rcases List.mem_cons.mp m with rfl | m
    · exact ⟨_, _, rfl, by decide, by decide, gT2 (gI _ 4) (gI _ 4)⟩
    · rw [List.mem_singleton.mp m]
      exact ⟨_, _, rfl, by decide, by decide, gI _ 5⟩
  refine ⟨L4, rfl, forN_all 7 (fun k ρ => ∃ nu fd sp pa th, ρ = R nu fd sp (some (.dat (.list L3))) pa th ∧ Fd (30 + k) fd) L4 0 _ (by show 0 + 7 ≤ 7; decide) ⟨_, f6, _, _, _, rfl, F6⟩ (fun x hx k ρ hk i => ?_) (fun ρ i => ?_)⟩
  · obtain ⟨nu, fd, sp, pa, th, rfl, Fk⟩ := i
    obtain ⟨i, x, rfl, i0, i5, gx⟩ := a4 x hx
    refine ⟨R nu fd (some (.dat (.int i))) (some (.dat (.list L3))) pa (some (.dat x)), rfl, fun Q' q' => ?_⟩
    let T : D := .tuple [.int n, .tuple ks, .tuple ss, .tuple [WY, .tuple ([kd, .tuple [PT, PT, PT], S "youngest", .tuple (rgD 0 n.toNat), PyData.int 6].set i.toNat x)]]
    refine ⟨fd, rfl, T, ?_, [T], rfl, T, rfl, szl (by have := Fk.1; omega), q' _ ⟨_, _, _, _, _, rfl, Fk.app (Fd.one (puts i _ gx))⟩⟩
    have ep : eCall (gN 3 sPut) (aCons (eVar 8) (aCons (eVar 11) (aCons (eVar 14) aNil))) (shutR true (R nu fd (some (.dat (.int i))) (some (.dat (.list L3))) pa (some (.dat x)))) = some (.tuple ([kd, .tuple [PT, PT, PT], S "youngest", .tuple (rgD 0 n.toNat), PyData.int 6].set i.toNat x)) := ev_call (ds := [WY, .int i, x]) rfl rfl (put_ok i0 (by show i < 5; exact i5) (by show 5 ≤ 1000; decide))
    have e2 : eTup (aCons (eVar 8) (aCons (eCall (gN 3 sPut) (aCons (eVar 8) (aCons (eVar 11) (aCons (eVar 14) aNil)))) aNil)) (shutR true (R nu fd (some (.dat (.int i))) (some (.dat (.list L3))) pa (some (.dat x)))) = some (.tuple [WY, .tuple ([kd, .tuple [PT, PT, PT], S "youngest", .tuple (rgD 0 n.toNat), PyData.int 6].set i.toNat x)]) := by
      unfold eTup
      rw [ev_cons (d := WY) rfl (ev_cons ep rfl)]
      rfl
    exact ev_tup (ev_cons (d := .int n) rfl (ev_cons (d := .tuple ks) rfl (ev_cons (d := .tuple ss) rfl (ev_cons e2 rfl)))) (by show 4 ≤ 1000; decide)
  obtain ⟨nu7, f7, sp7, pa7, th7, rfl, F7⟩ := i
  have F7 : Fd 37 f7 := F7
  -- one more
  let T8 : D := .tuple [.int n, .tuple ks, .tuple [SR], .tuple [.tuple ([kd, .tuple [PT, PT, PT], S "youngest", .tuple (rgD 0 n.toNat), PyData.int 6].set (4 : Int).toNat (.int 0))]]
  have g8 : ∀ (i : Int) (x : D), Gd' 5 x → Gd' 10 (.tuple [.int n, .tuple ks, .tuple [SR], .tuple [.tuple ([kd, .tuple [PT, PT, PT], S "youngest", .tuple (rgD 0 n.toNat), PyData.int 6].set i.toNat x)]]) := fun i x gx =>
    gT4 (gI _ 9) (gks.up (by omega)) (gT1 (gSR.up (by omega))) (gT1 ((gT (set_all wy4 gx) (by rw [List.length_set]; show 5 ≤ 1000; decide) (by omega)).up (by omega)))
  refine ⟨f7, rfl, T8, ?_, [T8], rfl, T8, rfl, F7.sz (by decide), ?_⟩
  · exact ev_tup (ev_cons (d := .int n) rfl (ev_cons (d := .tuple ks) rfl (ev_cons (d := .tuple [SR]) rfl (ev_cons (ev_tup (ev_cons (ev_call (ds := [WY, .int 4, .int 0]) rfl rfl (put_ok (by decide) (by show (4 : Int) < 5; decide) (by show 5 ≤ 1000; decide))) rfl) (by show 1 ≤ 1000; decide)) rfl)))) (by show 4 ≤ 1000; decide)
  have F8 := F7.app (Fd.one (g8 4 (.int 0) (gI _ 5)))
  have F8 : Fd 38 (f7 ++ [T8]) := F8
  generalize f7 ++ [T8] = f8 at F8 ⊢
  let T9 : D := .tuple [.int n, .tuple ks, .tuple [SR], .tuple [.tuple ([kd, .tuple [PT, PT, PT], S "youngest", .tuple (rgD 0 n.toNat), PyData.int 6].set (2 : Int).toNat (.int 3))]]
  have F9 : Fd 39 (f8 ++ [T9]) := F8.app (Fd.one (g8 2 (.int 3) (gI _ 5)))
  refine ⟨.list (f8 ++ [T9]), ?_, q _ b1 ⟨_, rfl, ⟨by have := F9.1; omega, F9.2⟩⟩ (by simpa using hb1)⟩
  refine ev_e2 (a := .list f8) (b := .list [T9]) rfl ?_ (add_lst (sz (by have := F8.1; show f8.length + 1 ≤ 100000; omega)))
  exact ev_lst (ev_cons (ev_tup (ev_cons (d := .int n) rfl (ev_cons (d := .tuple ks) rfl (ev_cons (d := .tuple [SR]) rfl (ev_cons (ev_tup (ev_cons (ev_call (ds := [WY, .int 2, .int 3]) rfl rfl (put_ok (by decide) (by show (2 : Int) < 5; decide) (by show 5 ≤ 1000; decide))) rfl) (by show 1 ≤ 1000; decide)) rfl)))) (by show 4 ≤ 1000; decide)) rfl) (by show 1 ≤ 1000; decide)
end
end Dl
namespace Dl
open PySem PySem.Spec PyProof.Rows L2 Rt
def FI (d : D) : Prop := d = .none ∨ ∃ (i : List Int) (w : String), d = flt i w ∧ okD (S w) = true
theorem fI {i : List Int} {w : String} (h : okD (S w) = true := by decide +kernel) : FI (flt i w) := .inr ⟨i, w, rfl, h⟩
theorem below_I {p : List Int} {d : D} (h : FI d) : FI (below (p.map PyData.int) d) := by
  rcases h with rfl | ⟨i, w, rfl, ok⟩
  · exact .inl rfl
  · exact .inr ⟨p ++ i, w, by unfold flt below; rw [List.map_append], ok⟩
theorem partF_I (ks : List D) (d : D) : FI (partF ks d) := by
  unfold partF
  repeat' split
  all_goals first | exact fI | exact .inl rfl
theorem srcF_I (n : Int) (ks : List D) (d : D) : FI (srcF n ks d) := by
  unfold srcF
  repeat' split
  all_goals first | exact fI | exact .inl rfl
theorem firstF_I {pre : List Int} {f : D → D} (hf : ∀ x, FI (f x)) : ∀ (xs : List D) (k : Nat), FI (firstF (pre.map PyData.int) f k xs)
  | [], _ => .inl rfl
  | x :: xs, k => by
    by_cases h : f x = .none
    · rw [firstF_none h]; exact firstF_I hf xs (k + 1)
    · rw [firstF_some h]
      have : pre.map PyData.int ++ [PyData.int k] = (pre ++ [(k : Int)]).map PyData.int := by simp
      rw [this]
      exact below_I (hf x)
theorem partsF_I (ks : List D) (d : D) : FI (partsF ks d) := by
  unfold partsF
  split
  · split
    · exact fI
    · exact firstF_I (pre := []) (partF_I ks) _ _
  · exact fI
theorem wayF_I (n : Int) (ks : List D) (d : D) : FI (wayF n ks d) := by
  unfold wayF
  split
  · split
    · exact fI
    · rename_i b _ _ _ _
      have h := partsF_I ks b
      split
      · repeat' split
        all_goals first | exact fI | exact .inl rfl
      · exact below_I (p := [1]) h
  · exact fI
theorem kindsF_I (d : D) : FI (kindsF d) := by
  unfold kindsF
  split
  · split
    · exact fI
    · rename_i ds _
      have : ∀ (xs : List D) (k : Nat), FI (orN (firstG (gK ds) k xs)) := by
        intro xs
        induction xs with
        | nil => intro k; exact .inl rfl
        | cons x xs ih =>
          intro k
          cases e : gK ds k x with
          | none => rw [firstG_no e]; exact ih _
          | some d =>
            rw [firstG_yes e]
            unfold gK at e
            split at e
            · cases e; exact fI
            · cases e
      exact this _ _
  · exact fI
theorem orF_I {a b : D} (ha : FI a) (hb : FI b) : FI (orF a b) := by
  unfold orF
  split
  · exact hb
  · exact ha
theorem srcsF_I (n : Int) (ks : List D) (d : D) : FI (srcsF n ks d) := by
  unfold srcsF
  split
  · split
    · exact fI
    · exact firstF_I (pre := [2]) (srcF_I n ks) _ _
  · exact fI
theorem waysF_I (n : Int) (ks : List D) (d : D) : FI (waysF n ks d) := by
  unfold waysF
  split
  · split
    · exact fI
    · exact firstF_I (pre := [3]) (wayF_I n ks) _ _
  · exact fI
theorem worldF_I (d : D) : FI (worldF d) := by
  unfold worldF
  split
  · split
    · exact fI
    · exact orF_I (kindsF_I _) (orF_I (srcsF_I _ _ _) (waysF_I _ _ _))
  · split
    · exact fI
    · exact kindsF_I _
  · exact fI
theorem FI_dp {d : D} (h : FI d) (hl : ∀ i w, d = .tuple [.tuple i, w] → i.length ≤ 10) : dpA 3 d := by
  rcases h with rfl | ⟨i, w, rfl, ok⟩
  · exact (rfl : okD .none = true)
  · refine ⟨by show 2 ≤ 1000; decide, fun d m => ?_⟩
    rcases List.mem_cons.mp m with rfl | m
    · refine ⟨by have := hl _ _ rfl; omega, fun d m => ?_⟩
      obtain ⟨j, _, rfl⟩ := List.mem_map.mp m
      exact (rfl : okD (.int j) = true)
    · rw [List.mem_singleton.mp m]
      exact ok
theorem worldF_len (d : D) : ∀ i w, worldF d = .tuple [.tuple i, w] → i.length ≤ 10 := by
  have hN : FltN 10 (worldF d) := by
    have up : ∀ {n m : Nat} {d : D}, FltN n d → n ≤ m → FltN m d := fun h l => h.imp id fun ⟨i, w, e, q⟩ => ⟨i, w, e, by omega⟩
    have orN' : ∀ {a b : D}, FltN 10 a → FltN 10 b → FltN 10 (orF a b) := fun ha hb => by
      unfold orF
      split
      · exact hb
      · exact ha
    have hw : ∀ n ks d, FltN 10 (waysF n ks d) := fun n ks d => by
      unfold waysF
      split
      · split
        · exact fltN (by decide)
        · exact firstF_N (n := 3) (wayF_N n ks) (by simp) _ _
      · exact fltN (by decide)
    unfold worldF
    split
    · split
      · exact fltN (by decide)
      · exact orN' (up (kindsF_N _) (by omega)) (orN' (srcsF_N _ _ _) (hw _ _ _))
    · split
      · exact fltN (by decide)
      · exact up (kindsF_N _) (by omega)
    · exact fltN (by decide)
  intro i w e
  rcases hN with z | ⟨i', w', e', l⟩
  · rw [e] at z; cases z
  · rw [e] at e'; cases e'; exact l
def spLaw (K : PySem.W.Frag) : Sp := fun vs H Q _ => ∃ (a : Addr) (ns : List Int), vs = [.ref a] ∧ SqL K H a (ns.map V.int) ∧ ns.length ≤ 63 ∧ ∀ H', Q (.bl true) H'
section
variable {P : Program} {w : World} {K : PySem.W.Frag} {mg : Str → Option Value} {base : Heap}
theorem ok_alike {f : Addr} {fd : FuncData} (F : Fun K "_law_alike" "_law_alike" s_law_alike f fd) (b : Binds K fd ["_law_one_here", "_law_other"] []) (g : mg "_law_alike" = some (.ref f)) (m_isinstance : mg "isinstance" = none) (m_tuple : mg "tuple" = none) (m_bool : mg "bool" = none) (m_int : mg "int" = none) (m_str : mg "str" = none) (m_len : mg "len" = none) (m_all : mg "all" = none) (m_zip : mg "zip" = none) : FnOk P w K mg base CX0 3 f fd ["_law_one_here", "_law_other"] (spD 2 (sAl (dpA 3))) := by
  have s0 : FnOk P w K mg base CX0 0 f fd ["_law_one_here", "_law_other"] (spD 2 (sAl (dpA 0))) := ok_never fun ds => by
    unfold sAl
    split
    · exact @if_neg _ (Classical.propDecidable _) (fun h => h.2) _ _ _
    · rfl
  have s1 := ok_alikeS F m_isinstance m_tuple m_bool m_int m_str m_len m_all m_zip ⟨f, fd, s0, g, F.kp, b⟩
  have s2 := ok_alikeS F m_isinstance m_tuple m_bool m_int m_str m_len m_all m_zip ⟨f, fd, s1, g, F.kp, b⟩
  exact ok_alikeS F m_isinstance m_tuple m_bool m_int m_str m_len m_all m_zip ⟨f, fd, s2, g, F.kp, b⟩
theorem ok_law {f : Addr} {fd : FuncData} {t1 t2 t3 t4 t5 t6 t7 t8 t9 t10 t11 t12 t13 t14 t15 t16 t17 : Tok} (F : Fun K "law" "law" s_law f fd) (m_range : mg "range" = none)
    (g_ROUND : mg "ROUND" = some (.int 6 t1)) (g_KINDS : mg "KINDS" = some (.int 4 t2)) (g_SOURCES : mg "SOURCES" = some (.int 6 t3)) (g_OLD : mg "OLD" = some (.int 20 t4)) (g_SINCE : mg "SINCE" = some (.int 1000000 t5)) (g_MANY : mg "MANY" = some (.int 9 t6)) (g_WAYS : mg "WAYS" = some (.int 8 t7)) (g_PARTS : mg "PARTS" = some (.int 3 t8)) (g_WAIT : mg "WAIT" = some (.int 6 t9)) (g_READY : mg "READY" = some (.int 26 t10)) (g_FAR : mg "FAR" = some (.int 1000000000000000 t11)) (g_LAST : mg "LAST" = some (.int 3000000000000000 t12)) (g_ITEMS : mg "ITEMS" = some (.int 4 t13)) (g_LATE : mg "LATE" = some (.int 60 t14)) (g_LOST : mg "LOST" = some (.int 12 t15)) (g_SPENT : mg "SPENT" = some (.int 7 t16)) (g_DEEDS : mg "DEEDS" = some (.int 40 t17))
    (C__law_draws : Cl P w K mg base 1 "_law_draws" ["_law_script"] (spDraws K)) (C__law_world : Cl P w K mg base 5 "_law_world" ["_law_drawn", "_law_wide", "_law_old"] (spN 2 gWorld)) (C__law_edges : Cl P w K mg base 2 "_law_edges" ["_law_drawn", "_law_world_here"] (spN 1 gEdges)) (C__law_two : Cl P w K mg base 3 "_law_two" ["_law_drawn", "_law_world_here"] (spN 1 gTwo)) (C__law_alike : Cl P w K mg base 3 "_law_alike" ["_law_one_here", "_law_other"] (spD 2 (sAl (dpA 3)))) (C_worldfault : Cl P w K mg base 7 "worldfault" ["thing"] (spD 1 sWorldF)) (C__law_world_word : Cl P w K mg base 4 "_law_world_word" ["_law_thing"] (spD 1 sWorldX)) : FnOk P w K mg base CX0 8 f fd ["_law_script"] (spLaw K) := by
  refine F.ok sc_law (fun vs H Q E h => ?_) (fun cdv A outer s H vs Q E hr h => ?_)
  · obtain ⟨a, ns, rfl, _⟩ := h
    rfl
  · obtain ⟨a, ns, rfl, hS, hn, q⟩ := h
    refine ⟨_, pss_cons (ps_set (i := 1) sc_law.nd rfl (.inr rfl) (pe_cl C__law_draws (hr.mono (by omega)) (by rfl) (pa_cons (pv 0) pa_nil)))
      (nSs_cons (nS_asg (K := K) (p := .nm 2) (ps_set (i := 2) sc_law.nd rfl (.inl rfl) (nE_pure (dE_lst (dA_cons (dE_c (μ := true) (pe_glob (v := .int 6) (by rfl) g_ROUND ⟨_, rfl⟩)) (dA_cons (dE_c (μ := true) (pe_glob (v := .int 4) (by rfl) g_KINDS ⟨_, rfl⟩)) (dA_cons (dE_c (μ := true) (pe_glob (v := .int 6) (by rfl) g_SOURCES ⟨_, rfl⟩)) (dA_cons (dE_c (μ := true) (pe_glob (v := .int 20) (by rfl) g_OLD ⟨_, rfl⟩)) (dA_cons (dE_c (μ := true) (pe_glob (v := .int 1000000) (by rfl) g_SINCE ⟨_, rfl⟩)) (dA_cons (dE_c (μ := true) (pe_glob (v := .int 9) (by rfl) g_MANY ⟨_, rfl⟩)) (dA_cons (dE_c (μ := true) (pe_glob (v := .int 8) (by rfl) g_WAYS ⟨_, rfl⟩)) (dA_cons (dE_c (μ := true) (pe_glob (v := .int 3) (by rfl) g_PARTS ⟨_, rfl⟩)) (dA_cons (dE_c (μ := true) (pe_glob (v := .int 6) (by rfl) g_WAIT ⟨_, rfl⟩)) (dA_cons (dE_c (μ := true) (pe_glob (v := .int 26) (by rfl) g_READY ⟨_, rfl⟩)) (dA_cons (dE_c (μ := true) (pe_glob (v := .int 1000000000000000) (by rfl) g_FAR ⟨_, rfl⟩)) (dA_cons (dE_c (μ := true) (pe_glob (v := .int 3000000000000000) (by rfl) g_LAST ⟨_, rfl⟩)) (dA_cons (dE_c (μ := true) (pe_glob (v := .int 4) (by rfl) g_ITEMS ⟨_, rfl⟩)) (dA_cons (dE_c (μ := true) (pe_glob (v := .int 60) (by rfl) g_LATE ⟨_, rfl⟩)) (dA_cons (dE_c (μ := true) (pe_glob (v := .int 12) (by rfl) g_LOST ⟨_, rfl⟩)) (dA_cons (dE_c (μ := true) (pe_glob (v := .int 7) (by rfl) g_SPENT ⟨_, rfl⟩)) (dA_nil (μ := true))))))))))))))))))))))
  (nSs_cons (nS_asg (K := K) (p := .nm 3) (ps_set (i := 3) sc_law.nd rfl (.inl rfl) (nE_pure (dE_lst (dA_cons (dE_c (μ := true) pe_int) (dA_cons (dE_c (μ := true) pe_int) (dA_cons (dE_c (μ := true) pe_int) (dA_cons (dE_c (μ := true) pe_int) (dA_cons (dE_op o_pow (dE_c (μ := true) pe_int) (dE_c (μ := true) pe_int)) (dA_cons (dE_c (μ := true) pe_int) (dA_cons (dE_c (μ := true) pe_int) (dA_cons (dE_c (μ := true) pe_int) (dA_cons (dE_c (μ := true) pe_int) (dA_cons (dE_c (μ := true) pe_int) (dA_cons (dE_op o_pow (dE_c (μ := true) pe_int) (dE_c (μ := true) pe_int)) (dA_cons (dE_op o_mulX (dE_c (μ := true) pe_int) (dE_op o_pow (dE_c (μ := true) pe_int) (dE_c (μ := true) pe_int))) (dA_cons (dE_c (μ := true) pe_int) (dA_cons (dE_c (μ := true) pe_int) (dA_cons (dE_c (μ := true) pe_int) (dA_cons (dE_c (μ := true) pe_int) (dA_nil (μ := true))))))))))))))))))))))
  (nSs_cons (nS_if (nT_pure (PW.pt (dW_or (dT_cmp (o_ne hr.units) (dE_var (μ := true) (pv 2)) (dE_var (μ := true) (pv 3)) (nomark _)) (dW_or1 (dT_cmp (o_ne hr.units) (dE_c (μ := true) (pe_glob (v := .int 40) (by rfl) g_DEEDS ⟨_, rfl⟩)) (dE_c (μ := true) pe_int) (nomark _))))))
    (nSs_one (nS_retL (ps_ret (dE_c (μ := true) pe_bl))))
    nSs_nil)
  (nSs_cons (nS_asg (K := K) (p := .nm 4) (ps_set (i := 4) sc_law.nd rfl (.inr rfl) (nE_draw C__law_world (hr.mono (by omega)) (by rfl) (pv 1) (nA_cons (nE_pure (dE_c (μ := true) pe_int)) (nA_cons (nE_pure (dE_c (μ := true) pe_int)) nA_nil)))))
  (nSs_cons (nS_asg (K := K) (p := .nm 5) (ps_set (i := 5) sc_law.nd rfl (.inl rfl) (nE_op o_add (nE_draw C__law_edges (hr.mono (by omega)) (by rfl) (pv 1) (nA_cons (nE_pure (dE_var (μ := true) (pv 4))) nA_nil)) (nE_lc (K := K) (p := (.nm 7)) (pe_lc (own := [("_law_k", 7)]) (g := gP K (.nm 7)) rfl sc_law.nd (nI_pure (dI_ran1 (by rfl) m_range (dA_cons (dE_c (μ := true) pe_int) (dA_nil (μ := true))))) (blkOk_by (own := [("_law_k", 7)]) (N := ["_law_script", "_law_drawn", "_law_found", "_law_due", "_law_world_here", "_law_some", "_law_thing", "_law_k"]) (sc := defScope s_law) (by decide +kernel)) (fun _ _ _ _ _ => (pg_name (i := 7) sc_law.nd rfl (.inl rfl))) (fun _ _ _ _ _ => nTs_nil) (fun _ _ _ _ _ => (nE_draw C__law_two (hr.mono (by omega)) (by rfl) (pv 1) (nA_cons (nE_pure (dE_var (μ := true) (pv 4))) nA_nil))))))))
  (nSs_cons (nS_for (K := K) (p := (.nm 6)) (ps_for PassesOwn.never rfl (nI_pure (dI_seq (dE_var (μ := true) (pv 5)))) (pg_name (i := 6) sc_law.nd rfl (.inl rfl))
    (nSs_one (nS_if (nT_pure (dT_not (dT_val (dE_cl C__law_alike (hr.mono (by omega)) (by rfl) (dA_cons (dE_cl C_worldfault (hr.mono (by omega)) (by rfl) (dA_cons (dE_var (μ := true) (pv 6)) (dA_nil (μ := true)))) (dA_cons (dE_cl C__law_world_word (hr.mono (by omega)) (by rfl) (dA_cons (dE_var (μ := true) (pv 6)) (dA_nil (μ := true)))) (dA_nil (μ := true))))))))
    (nSs_one (nS_retL (ps_ret (dE_c (μ := true) pe_bl))))
    nSs_nil))))
  (nSs_one (nS_retL (ps_ret (dE_c (μ := true) pe_bl)))))))))), ?_⟩
    refine ⟨.ref a, rfl, a, ns, rfl, hS, hn, fun g H1 _ F1 => ?_⟩
    let R : Option LV → Option LV → Option LV → Option LV → Option LV → Option LV → Rho := fun a b c d e f => [none, some .pool, a, b, c, d, e, f]
    refine ⟨g, g.own, H1, R none none none none none none, 1000000, ⟨.refl, fun p o => g.alive F1 o, fun p o => g.alive F1 o, fun p o => o, F1, rfl, fun i d e => ?_, fun i d e => ?_, fun i d e => ?_, fun i e => ?_, fun i j a b p e => ?_⟩, ?_⟩
    · match i, e with
      | 0, e | 1, e | 2, e | 3, e | 4, e | 5, e | 6, e | 7, e => cases e
      | i + 8, e => cases e
    · match i, e with
      | 0, e | 1, e | 2, e | 3, e | 4, e | 5, e | 6, e | 7, e => cases e
      | i + 8, e => cases e
    · match i, e with
      | 0, e | 1, e | 2, e | 3, e | 4, e | 5, e | 6, e | 7, e => cases e
      | i + 8, e => cases e
    · match i, e with
      | 1, e => rfl
      | 0, e | 2, e | 3, e | 4, e | 5, e | 6, e | 7, e => cases e
      | i + 8, e => cases e
    · match i, e with
      | 0, e | 1, e | 2, e | 3, e | 4, e | 5, e | 6, e | 7, e => cases e
      | i + 8, e => cases e
    refine WP.m _ (P := fun o b => o = .rt (.bool true)) (fun o b' e => ?_) ?_
    · subst e
      intro v H' _ _ r
      cases r
      exact q H'
    let L : List D := [.int 6, .int 4, .int 6, .int 20, .int 1000000, .int 9, .int 8, .int 3, .int 6, .int 26, .int 1000000000000000, .int 3000000000000000, .int 4, .int 60, .int 12, .int 7]
    refine ⟨.list L, rfl, R (some (.dat (.list L))) none none none none none, rfl, ?_⟩
    refine ⟨.list L, rfl, R (some (.dat (.list L))) (some (.dat (.list L))) none none none none, rfl, ?_⟩
    have okl : okD (.list L) = true := by decide +kernel
    refine ⟨false, ev_oOrF (ev_oB (ev_e2 (a := .list L) (b := .list L) rfl rfl ((ne_ok okl okl).trans (by rw [eqv_refl okl]; rfl)))) rfl, ?_⟩
    refine ⟨rfl, .int 6, rfl, .int 20, rfl, _, rfl, _, rfl, rfl, ⟨6, 20, rfl, by decide, by decide, by decide, by decide⟩, by decide, fun W b1 hW h1 => ⟨R (some (.dat (.list L))) (some (.dat (.list L))) (some (.dat W)) none none none, rfl, ?_⟩⟩
    refine ⟨rfl, W, rfl, _, rfl, rfl, ⟨W, rfl, hW⟩, by omega, fun d b2 hd h2 => ?_⟩
    obtain ⟨fd1, rfl, Fd1⟩ := hd
    refine ⟨rgD 0 12, ev_itG (ds := [.int 12]) rfl (ran1_ok (j := 12) (by decide) (by decide)), ?_⟩
    refine lcN_all 2 (Gd' 10) (rgD 0 12) b2 _ (by rw [rgD_len]; omega) (fun x hx b Q hb q => ?_) (fun ts b3 lt ht h3 => ?_)
    · obtain ⟨i, _, rfl⟩ := List.mem_map.mp hx
      exact ⟨_, rfl, rfl, W, rfl, _, rfl, rfl, ⟨W, rfl, hW⟩, hb, fun d n' gd hn => q d n' gd hn⟩
    rw [rgD_len] at lt
    have lf := Fd1.1
    have all : ∀ x ∈ fd1 ++ ts, Gd' 10 x := fun x hx => by
      rcases List.mem_append.mp hx with h | h
      · exact Fd1.2 x h
      · exact ht x h
    refine ⟨.list (fd1 ++ ts), add_lst (sz (by omega)), R (some (.dat (.list L))) (some (.dat (.list L))) (some (.dat W)) (some (.dat (.list (fd1 ++ ts)))) none none, rfl, ?_⟩
    refine ⟨fd1 ++ ts, rfl, forN_all (fd1 ++ ts).length (fun k ρ => ∃ x y, ρ = R (some (.dat (.list L))) (some (.dat (.list L))) (some (.dat W)) (some (.dat (.list (fd1 ++ ts)))) x y) (fd1 ++ ts) 0 _ (by omega) ⟨_, _, rfl⟩ (fun x hx k ρ _ i => ?_) (fun ρ i => ?_)⟩
    · obtain ⟨y1, y2, rfl⟩ := i
      refine ⟨R (some (.dat (.list L))) (some (.dat (.list L))) (some (.dat W)) (some (.dat (.list (fd1 ++ ts)))) (some (.dat x)) y2, rfl, fun Q' q' => ?_⟩
      have gx := all x hx
      have e1 : sWorldF [x] = some (worldF x) := if_pos gx.o
      have e2 : sWorldX [x] = some (worldF x) := if_pos gx.gd
      refine ⟨false, ev_not (b := true) (ev_oB (ev_call (ev_cons (ev_call (ds := [x]) rfl rfl e1) (ev_cons (ev_call (ds := [x]) rfl rfl e2) rfl)) rfl (sAl_ok (FI_dp (worldF_I x) (worldF_len x))))), ?_⟩
      exact q' _ ⟨_, _, rfl⟩
    · obtain ⟨y1, y2, rfl⟩ := i
      exact ⟨.bool true, rfl, rfl⟩
end
end Dl
namespace Dl
open PySem PySem.Spec PyProof.Rows L2 Rt
theorem all_map {α β : Type} {f : α → β} {Pc : α → Prop} : ∀ {l : List β}, (∀ x ∈ l, ∃ c, x = f c ∧ Pc c) → ∃ cs : List α, l = cs.map f ∧ ∀ c ∈ cs, Pc c
  | [], _ => ⟨[], rfl, fun c h => nomatch h⟩
  | b :: r, h => by
    obtain ⟨c, rfl, pc⟩ := h b List.mem_cons_self
    obtain ⟨cs, rfl, al⟩ := all_map (l := r) fun x hx => h x (List.mem_cons_of_mem _ hx)
    exact ⟨c :: cs, rfl, fun d hd => by
      rcases List.mem_cons.mp hd with e | e
      · rw [e]; exact pc
      · exact al d e⟩
theorem join0 : ∀ cs : List Nat, Txt.join ⟨#[]⟩ (cs.map fun c => (⟨#[c]⟩ : Str)) = ⟨cs.toArray⟩ := by
  intro cs
  rw [TL.join_eq]
  induction cs with
  | nil => rfl
  | cons c r ih =>
    cases r with
    | nil => rfl
    | cons d r =>
      show (⟨#[c]⟩ : Str) ++ ⟨#[]⟩ ++ Str.join ⟨#[]⟩ ((d :: r).map fun c => (⟨#[c]⟩ : Str)) = _
      rw [ih]
      show (⟨(#[c] ++ #[]) ++ (d :: r).toArray⟩ : Str) = ⟨(c :: d :: r).toArray⟩
      simp
theorem str_app (x y : Str) : (x ++ y).cps.toList = x.cps.toList ++ y.cps.toList := by
  show (x.cps ++ y.cps).toList = _
  rw [Array.toList_append]
theorem str_len (x : Str) : x.length = x.cps.toList.length := by
  show x.cps.size = _
  rw [Array.length_toList]
structure NameS (z : Str) : Prop where
  lo : 1 ≤ z.length
  hi : z.length ≤ 8
  all : ∀ c ∈ z.cps.toList, c ∈ LET
theorem NameS.is {z : Str} (h : NameS z) : isName (.str z) = true := by
  unfold isName
  have h1 := h.lo
  have h2 := h.hi
  rw [Bool.and_eq_true_iff, Bool.and_eq_true_iff]
  exact ⟨⟨decide_eq_true (by omega), decide_eq_true (by omega)⟩, List.all_eq_true.mpr fun c hc => decide_eq_true (h.all c hc)⟩
section
variable {P : Program} {w : World} {K : PySem.W.Frag} {mg : Str → Option Value} {base : Heap}
def spKindsF : Sp := fun vs H Q _ => ∃ (g : Gd) (B : Nat) (m : Int), vs = [.ref g.d, .int m] ∧ Fu g B H ∧ 10 ≤ B ∧ 1 ≤ m ∧ m ≤ 4 ∧
  ∀ p (ks : List Str) H' H6, ks.length = m.toNat → (∀ k ∈ ks, NameS k) → TupF H' p (ks.map V.str) → Kp g H H6 → Fu g 0 H6 → H6 p = none → Fu g (B - 10) H' → Kp g H H' → Q (.ref p) H'
theorem ok_kindsF' {f : Addr} {fd : FuncData} (F : Fun K "_law_kinds" "_law_kinds" s_law_kinds f fd) (m_range : mg "range" = none) (m_sorted : mg "sorted" = none) (m_tuple : mg "tuple" = none)
    (C__law_next : Cl P w K mg base 1 "_law_next" ["_law_drawn", "_law_below"] spNext) (C__law_one : Cl P w K mg base 2 "_law_one" ["_law_drawn", "_law_wares"] (spOne K)) :
    FnOk P w K mg base CX0 3 f fd ["_law_drawn", "_law_many"] spKindsF := by
  refine F.ok sc_law_kinds (fun vs H Q E h => ?_) (fun cdv A outer s H vs Q E hr h => ?_)
  · obtain ⟨g, B, m, rfl, _⟩ := h
    rfl
  · obtain ⟨g, B, m, rfl, hF, hB, hm1, hm4, q⟩ := h
    refine ⟨_, (pss_cons (ps_set (i := 2) sc_law_kinds.nd rfl (.inr rfl) (pe_join pe_str (pe_lc (own := [("_law_k", 6)]) (g := (gName 6)) (tt := tYes) rfl sc_law_kinds.nd (pi_range1 (by rfl) m_range (pa_cons (pe_cl C__law_next (hr.mono (by omega)) (by rfl) (pa_cons (pv 0) (pa_cons pe_int pa_nil))) pa_nil)) (blkOk_by (own := [("_law_k", 6)]) (N := ["_law_drawn", "_law_many", "_law_stem", "_law_first", "_law_way_here", "_law_found", "_law_k"]) (sc := defScope s_law_kinds) (by decide +kernel)) (fun _ _ _ _ _ => (pg_name (i := 6) sc_law_kinds.nd rfl (.inl rfl))) (fun _ _ _ _ _ => pts_nil) (fun _ _ _ _ _ => (pe_cl C__law_one (hr.mono (by omega)) (by rfl) (pa_cons (pv 0) (pa_cons pe_str pa_nil)))))))
  (pss_cons (ps_set (i := 3) sc_law_kinds.nd rfl (.inr rfl) (pe_cl C__law_next (hr.mono (by omega)) (by rfl) (pa_cons (pv 0) (pa_cons pe_int pa_nil))))
  (pss_cons (ps_set (i := 4) sc_law_kinds.nd rfl (.inl rfl) (pe_cl C__law_next (hr.mono (by omega)) (by rfl) (pa_cons (pv 0) (pa_cons pe_int pa_nil))))
  (pss_cons (ps_setLc (i := 5) (own := [("_law_k", 6)]) (g := (gName 6)) (tt := tYes) rfl sc_law_kinds.nd rfl rfl (sw_true rfl rfl rfl (by decide +kernel)) (pi_range1 (by rfl) m_range (pa_cons (pv 1) pa_nil)) (blkOk_by (own := [("_law_k", 6)]) (N := ["_law_drawn", "_law_many", "_law_stem", "_law_first", "_law_way_here", "_law_found", "_law_k"]) (sc := defScope s_law_kinds) (by decide +kernel)) (fun _ _ _ _ _ => (pg_name (i := 6) sc_law_kinds.nd rfl (.inl rfl))) (fun _ _ _ _ _ => pts_nil) (fun _ _ _ _ _ => (pe_op op_add_str (pv 2) (pe_ix ix_str pe_str (pe_op op_addL (pv 3) (pv 6)) (fun _ _ => rfl)))))
  (pss_cons (ps_if (pt_cmpR op_eq (pv 4) pe_int (nomark _))
    (pss_one (ps_setLc (i := 5) (own := [("_law_k", 6)]) (g := (gName 6)) (tt := tYes) rfl sc_law_kinds.nd rfl rfl (sw_true rfl rfl rfl (by decide +kernel)) (pi_range1 (by rfl) m_range (pa_cons (pv 1) pa_nil)) (blkOk_by (own := [("_law_k", 6)]) (N := ["_law_drawn", "_law_many", "_law_stem", "_law_first", "_law_way_here", "_law_found", "_law_k"]) (sc := defScope s_law_kinds) (by decide +kernel)) (fun _ _ _ _ _ => (pg_name (i := 6) sc_law_kinds.nd rfl (.inl rfl))) (fun _ _ _ _ _ => pts_nil) (fun _ _ _ _ _ => (pe_slice sl_str (pe_op op_add_str (pe_op op_repS pe_str (pe_op op_addL (pv 6) pe_int)) (pv 2)) po_none (po_some (pe_op op_addL (pe_op op_addL (pe_op op_subL pe_int (pv 1)) (pv 6)) pe_int))))))
    pss_nil)
  (pss_one (ps_ret (pe_callTy call_tupF (by rfl) m_tuple (by decide +kernel) (pa_cons (pe_callB cr_sortedS (by rfl) m_sorted (by decide +kernel) (pa_cons (pv 5) pa_nil)) pa_nil))))))))), ?_⟩
    -- the stem
    refine ⟨⟨_, rfl⟩, .ref g.d, rfl, g, B, 8, rfl, hF, by omega, by decide, by decide, fun n H1 n0 n8 F1 K1 => ⟨n, rfl, by omega, by omega, fun D nD => ?_⟩⟩
    refine lcR (g := g) (B := B - 1) 1 (fun _ y => ∃ c : Nat, y = V.str ⟨#[c]⟩ ∧ c ∈ LET) (fun i acc => acc.length = i) nD F1 (by omega) (by omega) (fun _ _ _ _ h => h) rfl (fun i H2 B' hi F2 hB' K2 Qk Qs qk qs => ?_) (fun H2 acc F2 K2 eD el pl al => ?_)
    · refine ⟨rfl, .ref g.d, rfl, g, B', _, rfl, F2, hB', .inr (.inr ⟨_, rfl, by decide, by decide, fun c H3 hc F3 K3 => ?_⟩)⟩
      exact qk _ _ F3 K3 ⟨c, rfl, hc⟩ (fun acc h => by rw [List.length_append, h]; rfl)
    obtain ⟨cs, rfl, hcs⟩ := all_map al
    rw [List.length_map] at pl
    refine ⟨_, D, cs.map (fun c => (⟨#[c]⟩ : Str)), rfl, rfl, .inl (SqL.of (by rw [eD, List.map_map]; rfl)), ?_, ?_⟩
    · show ((cs.map (fun c => (⟨#[c]⟩ : Str))).map (·.length)).sum + (cs.map (fun c => (⟨#[c]⟩ : Str))).length * 0 ≤ 16777216
      rw [List.map_map, show ((fun x : Str => x.length) ∘ fun c => (⟨#[c]⟩ : Str)) = fun _ => 1 from rfl, List.map_const', List.sum_replicate_nat]
      omega
    have hst : (Txt.join (Str.ofString "") (cs.map fun c => (⟨#[c]⟩ : Str))).length ≤ 7 := by
      rw [show Str.ofString "" = ⟨#[]⟩ from rfl, join0]
      show cs.toArray.size ≤ 7
      rw [List.size_toArray]
      omega
    have hsc : ∀ c ∈ (Txt.join (Str.ofString "") (cs.map fun c => (⟨#[c]⟩ : Str))).cps.toList, c ∈ LET := by
      rw [show Str.ofString "" = ⟨#[]⟩ from rfl, join0]
      exact hcs
    generalize Txt.join (Str.ofString "") (cs.map fun c => (⟨#[c]⟩ : Str)) = stem at hst hsc ⊢
    -- first, way_here
    refine ⟨.ref g.d, rfl, g, _, 23, rfl, F2, by omega, by decide, by decide, fun fi H3 fi0 fi1 F3 K3 => ?_⟩
    refine ⟨.ref g.d, rfl, g, _, 3, rfl, F3, by omega, by decide, by decide, fun wh H4 wh0 wh1 F4 K4 => ?_⟩
    have K14 : Kp g H H4 := ((K1.trans K2).trans K3).trans K4
    -- found
    refine ⟨.int m, rfl, m, rfl, by omega, by omega, fun D2 nD2 => ?_⟩
    refine lcR (g := g) 0 (fun _ y => ∃ z : Str, y = V.str z ∧ NameS z) (fun i acc => acc.length = i) nD2 F4 (by omega) (by omega) (fun _ _ _ _ h => h) rfl (fun i H5 B' hi F5 hB' K5 Qk Qs qk qs => ?_) (fun H5 acc5 F5 K5 eD5 el5 pl5 al5 => ?_)
    · refine ⟨rfl, .str stem, rfl, .int fi, rfl, .int (0 + i), rfl, fi, 0 + i, rfl, rfl, fun z ez => ?_⟩
      obtain ⟨c, hc, hcm, _⟩ := atI_in (xs := (Str.ofString "abcdefghijklmnopqrstuvwxyz").cps.toList) (i := z) (by omega) (by
        have : (Str.ofString "abcdefghijklmnopqrstuvwxyz").cps.toList.length = 26 := by decide
        rw [this]
        omega)
      refine ⟨_, z, c, rfl, rfl, by decide, hc, stem, _, rfl, rfl, ?_, ?_⟩
      · exact sz (by
          show stem.length + 1 ≤ 100000
          omega)
      · have e1 : (stem ++ (⟨#[c]⟩ : Str)).cps.toList = stem.cps.toList ++ [c] := str_app _ _
        have e2 : (stem ++ (⟨#[c]⟩ : Str)).length = stem.length + 1 := by rw [str_len, e1, List.length_append, ← str_len]; rfl
        refine qk _ _ F5 (Kp.refl _ _) ⟨_, rfl, ⟨by omega, by omega, fun d hd => ?_⟩⟩ (fun acc h => by rw [List.length_append, h]; rfl)
        rw [e1] at hd
        rcases List.mem_append.mp hd with h | h
        · exact hsc d h
        · rw [List.mem_singleton.mp h]; exact hcm
    obtain ⟨zs, rfl, hzs⟩ := all_map al5
    have fin : ∀ (zs : List Str) (D2 : Addr) (H5 : Hp), zs.length = m.toNat → (∀ k ∈ zs, NameS k) → H5 D2 = some (.lst (zs.map V.str)) → Fu g (B - 10) H5 → Kp g H H5 → rSortedS K [.ref D2] H5 fun v H6 => rTupF K [v] H6 Q := by
      intro zs D2 H5 lz hz eD5 F5 K5
      refine ⟨D2, zs, rfl, SqL.of eD5, by omega, fun ys p perm _ np => ⟨p, _, rfl, SqL.of upd_same, fun l o H' nl od eH' => ?_⟩⟩
      subst eH'
      have F6 := F5.new (o := .lst (ys.map V.str)) np
      have K6 : Kp g H (upd H5 p (.lst (ys.map V.str))) := K5.trans (Kp.new np)
      exact q l ys _ _ (by rw [perm.length_eq]; exact lz) (fun k hk => hz k (perm.mem_iff.mp hk)) ⟨o, upd_same, od⟩ K6 (F6.mono (by omega)) nl (F6.new nl) (K6.trans (Kp.new nl))
    rw [List.length_map] at pl5
    -- if way_here == 0
    refine ⟨.int wh, rfl, rfl, _, rfl, ite2 (fun e => ?_) (fun e => ?_)⟩
    · refine ⟨.int m, rfl, m, rfl, by omega, by omega, fun D3 nD3 => ?_⟩
      refine lcR (g := g) 0 (fun _ y => ∃ z : Str, y = V.str z ∧ NameS z) (fun i acc => acc.length = i) nD3 F5 (by omega) (by omega) (fun _ _ _ _ h => h) rfl (fun i H6 B' hi F6 hB' K6 Qk Qs qk qs => ?_) (fun H6 acc6 F6 K6 eD6 el6 pl6 al6 => ?_)
      · refine ⟨rfl, .int (0 + i), rfl, 0 + i, 1, rfl, rfl, fun z ez => ⟨_, z, rfl, rfl, by omega, by omega, by decide, by decide, fun r hrl er => ⟨.str stem, rfl, r, stem, rfl, rfl, ?_, ?_⟩⟩⟩
        · have er : r.length = z.toNat * 1 := er
          exact sz (by omega)
        · refine ⟨.int m, rfl, 8, m, rfl, rfl, fun a ea => ⟨.int (0 + i), rfl, a, 0 + i, rfl, rfl, fun b eb => ⟨b, 1, rfl, rfl, fun c ec => ⟨c, rfl, _, rfl, ?_, ?_⟩⟩⟩⟩
          · have er : r.length = z.toNat * 1 := er
            have : (r ++ stem).length = r.length + stem.length := by rw [str_len, str_app, List.length_append, ← str_len, ← str_len]
            rw [this]
            exact sz (by omega)
          · have er : r.length = z.toNat * 1 := er
            have er2 : (r ++ stem).length = r.length + stem.length := by rw [str_len, str_app, List.length_append, ← str_len, ← str_len]
            have hrs : ∀ d ∈ (r ++ stem).cps.toList, d ∈ LET := fun d hd => by
              rw [str_app] at hd
              rcases List.mem_append.mp hd with h | h
              · rw [hrl] at h
                obtain ⟨l, hl, hd⟩ := List.mem_flatten.mp h
                rw [(List.mem_replicate.mp hl).2] at hd
                have : ∀ d ∈ (Str.ofString "m").cps.toList, d ∈ LET := by decide +kernel
                exact this d hd
              · exact hsc d h
            have c0 : 0 ≤ c := by omega
            obtain ⟨cn, rfl⟩ := Int.eq_ofNat_of_zero_le c0
            have cut : (cutS (r ++ stem) none (some (cn : Int))).cps.toList = (r ++ stem).cps.toList.take (min cn (r ++ stem).length) := by
              unfold cutS
              rw [HT.sIx_none, HT.sIx_nat, List.drop_zero, Nat.sub_zero]
            have cl : (cutS (r ++ stem) none (some (cn : Int))).length = min cn (r ++ stem).length := by
              rw [str_len, cut, List.length_take, ← str_len]
              omega
            have hi' : i < m.toNat := hi
            exact qk _ _ F6 (Kp.refl _ _) ⟨_, rfl, ⟨by rw [cl]; omega, by rw [cl]; omega, fun d hd => hrs d (by rw [cut] at hd; exact List.mem_of_mem_take hd)⟩⟩ (fun acc h => by rw [List.length_append, h]; rfl)
      obtain ⟨z6, rfl, hz6⟩ := all_map al6
      rw [List.length_map] at pl6
      exact ⟨.ref D3, rfl, fin z6 D3 H6 pl6 hz6 eD6 (F6.mono (by omega)) ((K14.trans K5).trans K6)⟩
    · exact ⟨.ref D2, rfl, fin zs D2 H5 pl5 hzs eD5 (F5.mono (by omega)) (K14.trans K5)⟩
theorem ok_kinds {f : Addr} {fd : FuncData} {k : Nat} {ps : List Str} (F : FnOk P w K mg base CX0 k f fd ps spKindsF) : FnOk P w K mg base CX0 k f fd ps (spN 1 gKinds) := F.wk fun vs H Q E h => by
  obtain ⟨g, M, ws, ds, n, rfl, pl, dm, iv, r, l, ⟨m, rfl, m1, m4⟩, hn, q⟩ := h
  match ws, r with
  | [_], .cons (.int _) .nil =>
    refine ⟨g, n, m, rfl, iv, hn, m1, m4, fun p ks H' H6 lk hk t K6 F6 np F' K' => ?_⟩
    have nM : ¬ M p := fun mp => by
      cases e : H p with
      | none => exact dm p mp e
      | some o =>
        by_cases ow : g.own p
        · exact g.alive F6 ow np
        · rw [kp_own K6 p o ow e] at np; cases np
    have lk' : ks.length ≤ 4 := by omega
    refine q (.tuple (ks.map PyData.str)) (n - 10) ⟨m, _, rfl, rfl, by rw [List.length_map]; omega, by rw [List.length_map]; omega, fun k hk' => ?_⟩ (by omega) (.ref p) H' (kp_own K') F' (.tup t nM (by rw [List.length_map]; exact sz (by omega)) ?_)
    · obtain ⟨z, hz, rfl⟩ := List.mem_map.mp hk'
      exact (hk z hz).is
    · have : ∀ ks : List Str, (∀ k ∈ ks, NameS k) → RpAll M H' (ks.map V.str) (ks.map PyData.str) := by
        intro ks
        induction ks with
        | nil => intro _; exact .nil
        | cons k ks ih => exact fun h => .cons (.str k (sz (by have := (h k (by simp)).hi; omega))) (ih fun z hz => h z (by simp [hz]))
      exact this ks hk
end
end Dl
namespace Dl
open PySem PySem.Spec PyProof.Rows L2 Rt
theorem all_mk {l : PySem.W.OpenLaw} {w : World} {K : PySem.W.Frag} {h : Heap} {mg : Str → Option Value} {fa f0 f1 f2 f3 f4 f5 f6 f7 f8 f9 f10 f11 f12 f13 f14 f15 f16 f17 f18 f19 f20 f21 f22 f23 f24 f25 f26 f27 f28 f29 f30 f31 f32 f33 f34 f35 f36 : Addr} (X : K.In h) (G : h.Ns mainGlobals mg) (hfa : mg "law" = some (.ref fa))
    {od0 an0 od1 an1 od2 an2 od3 an3 od4 an4 od5 an5 od6 an6 od7 an7 od8 an8 od9 an9 od10 an10 od11 an11 od12 an12 od13 an13 od14 an14 od15 an15 od16 an16 od17 an17 od18 an18 od19 an19 od20 an20 od21 an21 od22 an22 od23 an23 od24 an24 od25 an25 od26 an26 od27 an27 od28 an28 od29 an29 od30 an30 od31 an31 od32 an32 od33 an33 od34 an34 od35 an35 od36 an36 : Option Addr} {sl0 sl1 sl2 sl3 sl4 sl5 sl6 sl7 sl8 sl9 sl10 sl11 sl12 sl13 sl14 sl15 sl16 sl17 sl18 sl19 sl20 sl21 sl22 sl23 sl24 sl25 sl26 sl27 sl28 sl29 sl30 sl31 sl32 sl33 sl34 sl35 sl36 : Array (Option Value)} {oc0 kV0 dc0 pm0 cd0 ct0 oc1 kV1 dc1 pm1 cd1 ct1 oc2 kV2 dc2 pm2 cd2 ct2 oc3 kV3 dc3 pm3 cd3 ct3 oc4 kV4 dc4 pm4 cd4 ct4 oc5 kV5 dc5 pm5 cd5 ct5 oc6 kV6 dc6 pm6 cd6 ct6 oc7 kV7 dc7 pm7 cd7 ct7 oc8 kV8 dc8 pm8 cd8 ct8 oc9 kV9 dc9 pm9 cd9 ct9 oc10 kV10 dc10 pm10 cd10 ct10 oc11 kV11 dc11 pm11 cd11 ct11 oc12 kV12 dc12 pm12 cd12 ct12 oc13 kV13 dc13 pm13 cd13 ct13 oc14 kV14 dc14 pm14 cd14 ct14 oc15 kV15 dc15 pm15 cd15 ct15 oc16 kV16 dc16 pm16 cd16 ct16 oc17 kV17 dc17 pm17 cd17 ct17 oc18 kV18 dc18 pm18 cd18 ct18 oc19 kV19 dc19 pm19 cd19 ct19 oc20 kV20 dc20 pm20 cd20 ct20 oc21 kV21 dc21 pm21 cd21 ct21 oc22 kV22 dc22 pm22 cd22 ct22 oc23 kV23 dc23 pm23 cd23 ct23 oc24 kV24 dc24 pm24 cd24 ct24 oc25 kV25 dc25 pm25 cd25 ct25 oc26 kV26 dc26 pm26 cd26 ct26 oc27 kV27 dc27 pm27 cd27 ct27 oc28 kV28 dc28 pm28 cd28 ct28 oc29 kV29 dc29 pm29 cd29 ct29 oc30 kV30 dc30 pm30 cd30 ct30 oc31 kV31 dc31 pm31 cd31 ct31 oc32 kV32 dc32 pm32 cd32 ct32 oc33 kV33 dc33 pm33 cd33 ct33 oc34 kV34 dc34 pm34 cd34 ct34 oc35 kV35 dc35 pm35 cd35 ct35 oc36 kV36 dc36 pm36 cd36 ct36 : Value}
    (a0 : PySem.W.nsIn K mainGlobals "is_number" = some (some (.ref f0))) (l0 : K.lookup f0 = some ⟨oc0, od0, .func (PySem.W.fnOf "is_number" "is_number" (defArgs s_is_number) (defBody s_is_number) (defScope s_is_number) .none kV0 dc0 pm0 an0 cd0 ct0), sl0⟩) (c0 : PySem.W.codeIn K cd0 "is_number" = true) (k0 : PySem.W.keepIn K (.ref f0) = true)
    (a1 : PySem.W.nsIn K mainGlobals "is_number_from" = some (some (.ref f1))) (l1 : K.lookup f1 = some ⟨oc1, od1, .func (PySem.W.fnOf "is_number_from" "is_number_from" (defArgs s_is_number_from) (defBody s_is_number_from) (defScope s_is_number_from) .none kV1 dc1 pm1 an1 cd1 ct1), sl1⟩) (c1 : PySem.W.codeIn K cd1 "is_number_from" = true) (k1 : PySem.W.keepIn K (.ref f1) = true)
    (a2 : PySem.W.nsIn K mainGlobals "is_name" = some (some (.ref f2))) (l2 : K.lookup f2 = some ⟨oc2, od2, .func (PySem.W.fnOf "is_name" "is_name" (defArgs s_is_name) (defBody s_is_name) (defScope s_is_name) .none kV2 dc2 pm2 an2 cd2 ct2), sl2⟩) (c2 : PySem.W.codeIn K cd2 "is_name" = true) (k2 : PySem.W.keepIn K (.ref f2) = true)
    (a3 : PySem.W.nsIn K mainGlobals "is_row" = some (some (.ref f3))) (l3 : K.lookup f3 = some ⟨oc3, od3, .func (PySem.W.fnOf "is_row" "is_row" (defArgs s_is_row) (defBody s_is_row) (defScope s_is_row) .none kV3 dc3 pm3 an3 cd3 ct3), sl3⟩) (c3 : PySem.W.codeIn K cd3 "is_row" = true) (k3 : PySem.W.keepIn K (.ref f3) = true)
    (a4 : PySem.W.nsIn K mainGlobals "is_rising" = some (some (.ref f4))) (l4 : K.lookup f4 = some ⟨oc4, od4, .func (PySem.W.fnOf "is_rising" "is_rising" (defArgs s_is_rising) (defBody s_is_rising) (defScope s_is_rising) .none kV4 dc4 pm4 an4 cd4 ct4), sl4⟩) (c4 : PySem.W.codeIn K cd4 "is_rising" = true) (k4 : PySem.W.keepIn K (.ref f4) = true)
    (a5 : PySem.W.nsIn K mainGlobals "part_fault" = some (some (.ref f5))) (l5 : K.lookup f5 = some ⟨oc5, od5, .func (PySem.W.fnOf "part_fault" "part_fault" (defArgs s_part_fault) (defBody s_part_fault) (defScope s_part_fault) .none kV5 dc5 pm5 an5 cd5 ct5), sl5⟩) (c5 : PySem.W.codeIn K cd5 "part_fault" = true) (k5 : PySem.W.keepIn K (.ref f5) = true)
    (a6 : PySem.W.nsIn K mainGlobals "fault_below" = some (some (.ref f6))) (l6 : K.lookup f6 = some ⟨oc6, od6, .func (PySem.W.fnOf "fault_below" "fault_below" (defArgs s_fault_below) (defBody s_fault_below) (defScope s_fault_below) .none kV6 dc6 pm6 an6 cd6 ct6), sl6⟩) (c6 : PySem.W.codeIn K cd6 "fault_below" = true) (k6 : PySem.W.keepIn K (.ref f6) = true)
    (a7 : PySem.W.nsIn K mainGlobals "parts_fault" = some (some (.ref f7))) (l7 : K.lookup f7 = some ⟨oc7, od7, .func (PySem.W.fnOf "parts_fault" "parts_fault" (defArgs s_parts_fault) (defBody s_parts_fault) (defScope s_parts_fault) .none kV7 dc7 pm7 an7 cd7 ct7), sl7⟩) (c7 : PySem.W.codeIn K cd7 "parts_fault" = true) (k7 : PySem.W.keepIn K (.ref f7) = true)
    (a8 : PySem.W.nsIn K mainGlobals "is_hours" = some (some (.ref f8))) (l8 : K.lookup f8 = some ⟨oc8, od8, .func (PySem.W.fnOf "is_hours" "is_hours" (defArgs s_is_hours) (defBody s_is_hours) (defScope s_is_hours) .none kV8 dc8 pm8 an8 cd8 ct8), sl8⟩) (c8 : PySem.W.codeIn K cd8 "is_hours" = true) (k8 : PySem.W.keepIn K (.ref f8) = true)
    (a9 : PySem.W.nsIn K mainGlobals "source_fault" = some (some (.ref f9))) (l9 : K.lookup f9 = some ⟨oc9, od9, .func (PySem.W.fnOf "source_fault" "source_fault" (defArgs s_source_fault) (defBody s_source_fault) (defScope s_source_fault) .none kV9 dc9 pm9 an9 cd9 ct9), sl9⟩) (c9 : PySem.W.codeIn K cd9 "source_fault" = true) (k9 : PySem.W.keepIn K (.ref f9) = true)
    (a10 : PySem.W.nsIn K mainGlobals "way_fault" = some (some (.ref f10))) (l10 : K.lookup f10 = some ⟨oc10, od10, .func (PySem.W.fnOf "way_fault" "way_fault" (defArgs s_way_fault) (defBody s_way_fault) (defScope s_way_fault) .none kV10 dc10 pm10 an10 cd10 ct10), sl10⟩) (c10 : PySem.W.codeIn K cd10 "way_fault" = true) (k10 : PySem.W.keepIn K (.ref f10) = true)
    (a11 : PySem.W.nsIn K mainGlobals "kinds_fault" = some (some (.ref f11))) (l11 : K.lookup f11 = some ⟨oc11, od11, .func (PySem.W.fnOf "kinds_fault" "kinds_fault" (defArgs s_kinds_fault) (defBody s_kinds_fault) (defScope s_kinds_fault) .none kV11 dc11 pm11 an11 cd11 ct11), sl11⟩) (c11 : PySem.W.codeIn K cd11 "kinds_fault" = true) (k11 : PySem.W.keepIn K (.ref f11) = true)
    (a12 : PySem.W.nsIn K mainGlobals "sources_fault" = some (some (.ref f12))) (l12 : K.lookup f12 = some ⟨oc12, od12, .func (PySem.W.fnOf "sources_fault" "sources_fault" (defArgs s_sources_fault) (defBody s_sources_fault) (defScope s_sources_fault) .none kV12 dc12 pm12 an12 cd12 ct12), sl12⟩) (c12 : PySem.W.codeIn K cd12 "sources_fault" = true) (k12 : PySem.W.keepIn K (.ref f12) = true)
    (a13 : PySem.W.nsIn K mainGlobals "ways_fault" = some (some (.ref f13))) (l13 : K.lookup f13 = some ⟨oc13, od13, .func (PySem.W.fnOf "ways_fault" "ways_fault" (defArgs s_ways_fault) (defBody s_ways_fault) (defScope s_ways_fault) .none kV13 dc13 pm13 an13 cd13 ct13), sl13⟩) (c13 : PySem.W.codeIn K cd13 "ways_fault" = true) (k13 : PySem.W.keepIn K (.ref f13) = true)
    (a14 : PySem.W.nsIn K mainGlobals "worldfault" = some (some (.ref f14))) (l14 : K.lookup f14 = some ⟨oc14, od14, .func (PySem.W.fnOf "worldfault" "worldfault" (defArgs s_worldfault) (defBody s_worldfault) (defScope s_worldfault) .none kV14 dc14 pm14 an14 cd14 ct14), sl14⟩) (c14 : PySem.W.codeIn K cd14 "worldfault" = true) (k14 : PySem.W.keepIn K (.ref f14) = true)
    (a15 : PySem.W.nsIn K mainGlobals "_law_draws" = some (some (.ref f15))) (l15 : K.lookup f15 = some ⟨oc15, od15, .func (PySem.W.fnOf "_law_draws" "_law_draws" (defArgs s_law_draws) (defBody s_law_draws) (defScope s_law_draws) .none kV15 dc15 pm15 an15 cd15 ct15), sl15⟩) (c15 : PySem.W.codeIn K cd15 "_law_draws" = true) (k15 : PySem.W.keepIn K (.ref f15) = true)
    (a16 : PySem.W.nsIn K mainGlobals "_law_next" = some (some (.ref f16))) (l16 : K.lookup f16 = some ⟨oc16, od16, .func (PySem.W.fnOf "_law_next" "_law_next" (defArgs s_law_next) (defBody s_law_next) (defScope s_law_next) .none kV16 dc16 pm16 an16 cd16 ct16), sl16⟩) (c16 : PySem.W.codeIn K cd16 "_law_next" = true) (k16 : PySem.W.keepIn K (.ref f16) = true)
    (a17 : PySem.W.nsIn K mainGlobals "_law_one" = some (some (.ref f17))) (l17 : K.lookup f17 = some ⟨oc17, od17, .func (PySem.W.fnOf "_law_one" "_law_one" (defArgs s_law_one) (defBody s_law_one) (defScope s_law_one) .none kV17 dc17 pm17 an17 cd17 ct17), sl17⟩) (c17 : PySem.W.codeIn K cd17 "_law_one" = true) (k17 : PySem.W.keepIn K (.ref f17) = true)
    (a18 : PySem.W.nsIn K mainGlobals "_law_alike" = some (some (.ref f18))) (l18 : K.lookup f18 = some ⟨oc18, od18, .func (PySem.W.fnOf "_law_alike" "_law_alike" (defArgs s_law_alike) (defBody s_law_alike) (defScope s_law_alike) .none kV18 dc18 pm18 an18 cd18 ct18), sl18⟩) (c18 : PySem.W.codeIn K cd18 "_law_alike" = true) (k18 : PySem.W.keepIn K (.ref f18) = true)
    (a19 : PySem.W.nsIn K mainGlobals "_law_kinds" = some (some (.ref f19))) (l19 : K.lookup f19 = some ⟨oc19, od19, .func (PySem.W.fnOf "_law_kinds" "_law_kinds" (defArgs s_law_kinds) (defBody s_law_kinds) (defScope s_law_kinds) .none kV19 dc19 pm19 an19 cd19 ct19), sl19⟩) (c19 : PySem.W.codeIn K cd19 "_law_kinds" = true) (k19 : PySem.W.keepIn K (.ref f19) = true)
    (a20 : PySem.W.nsIn K mainGlobals "_law_source" = some (some (.ref f20))) (l20 : K.lookup f20 = some ⟨oc20, od20, .func (PySem.W.fnOf "_law_source" "_law_source" (defArgs s_law_source) (defBody s_law_source) (defScope s_law_source) .none kV20 dc20 pm20 an20 cd20 ct20), sl20⟩) (c20 : PySem.W.codeIn K cd20 "_law_source" = true) (k20 : PySem.W.keepIn K (.ref f20) = true)
    (a21 : PySem.W.nsIn K mainGlobals "_law_part" = some (some (.ref f21))) (l21 : K.lookup f21 = some ⟨oc21, od21, .func (PySem.W.fnOf "_law_part" "_law_part" (defArgs s_law_part) (defBody s_law_part) (defScope s_law_part) .none kV21 dc21 pm21 an21 cd21 ct21), sl21⟩) (c21 : PySem.W.codeIn K cd21 "_law_part" = true) (k21 : PySem.W.keepIn K (.ref f21) = true)
    (a22 : PySem.W.nsIn K mainGlobals "_law_way" = some (some (.ref f22))) (l22 : K.lookup f22 = some ⟨oc22, od22, .func (PySem.W.fnOf "_law_way" "_law_way" (defArgs s_law_way) (defBody s_law_way) (defScope s_law_way) .none kV22 dc22 pm22 an22 cd22 ct22), sl22⟩) (c22 : PySem.W.codeIn K cd22 "_law_way" = true) (k22 : PySem.W.keepIn K (.ref f22) = true)
    (a23 : PySem.W.nsIn K mainGlobals "_law_world" = some (some (.ref f23))) (l23 : K.lookup f23 = some ⟨oc23, od23, .func (PySem.W.fnOf "_law_world" "_law_world" (defArgs s_law_world) (defBody s_law_world) (defScope s_law_world) .none kV23 dc23 pm23 an23 cd23 ct23), sl23⟩) (c23 : PySem.W.codeIn K cd23 "_law_world" = true) (k23 : PySem.W.keepIn K (.ref f23) = true)
    (a24 : PySem.W.nsIn K mainGlobals "_law_is" = some (some (.ref f24))) (l24 : K.lookup f24 = some ⟨oc24, od24, .func (PySem.W.fnOf "_law_is" "_law_is" (defArgs s_law_is) (defBody s_law_is) (defScope s_law_is) .none kV24 dc24 pm24 an24 cd24 ct24), sl24⟩) (c24 : PySem.W.codeIn K cd24 "_law_is" = true) (k24 : PySem.W.keepIn K (.ref f24) = true)
    (a25 : PySem.W.nsIn K mainGlobals "_law_name" = some (some (.ref f25))) (l25 : K.lookup f25 = some ⟨oc25, od25, .func (PySem.W.fnOf "_law_name" "_law_name" (defArgs s_law_name) (defBody s_law_name) (defScope s_law_name) .none kV25 dc25 pm25 an25 cd25 ct25), sl25⟩) (c25 : PySem.W.codeIn K cd25 "_law_name" = true) (k25 : PySem.W.keepIn K (.ref f25) = true)
    (a26 : PySem.W.nsIn K mainGlobals "_law_row_of" = some (some (.ref f26))) (l26 : K.lookup f26 = some ⟨oc26, od26, .func (PySem.W.fnOf "_law_row_of" "_law_row_of" (defArgs s_law_row_of) (defBody s_law_row_of) (defScope s_law_row_of) .none kV26 dc26 pm26 an26 cd26 ct26), sl26⟩) (c26 : PySem.W.codeIn K cd26 "_law_row_of" = true) (k26 : PySem.W.keepIn K (.ref f26) = true)
    (a27 : PySem.W.nsIn K mainGlobals "_law_kind_in" = some (some (.ref f27))) (l27 : K.lookup f27 = some ⟨oc27, od27, .func (PySem.W.fnOf "_law_kind_in" "_law_kind_in" (defArgs s_law_kind_in) (defBody s_law_kind_in) (defScope s_law_kind_in) .none kV27 dc27 pm27 an27 cd27 ct27), sl27⟩) (c27 : PySem.W.codeIn K cd27 "_law_kind_in" = true) (k27 : PySem.W.keepIn K (.ref f27) = true)
    (a28 : PySem.W.nsIn K mainGlobals "_law_rising" = some (some (.ref f28))) (l28 : K.lookup f28 = some ⟨oc28, od28, .func (PySem.W.fnOf "_law_rising" "_law_rising" (defArgs s_law_rising) (defBody s_law_rising) (defScope s_law_rising) .none kV28 dc28 pm28 an28 cd28 ct28), sl28⟩) (c28 : PySem.W.codeIn K cd28 "_law_rising" = true) (k28 : PySem.W.keepIn K (.ref f28) = true)
    (a29 : PySem.W.nsIn K mainGlobals "_law_source_word" = some (some (.ref f29))) (l29 : K.lookup f29 = some ⟨oc29, od29, .func (PySem.W.fnOf "_law_source_word" "_law_source_word" (defArgs s_law_source_word) (defBody s_law_source_word) (defScope s_law_source_word) .none kV29 dc29 pm29 an29 cd29 ct29), sl29⟩) (c29 : PySem.W.codeIn K cd29 "_law_source_word" = true) (k29 : PySem.W.keepIn K (.ref f29) = true)
    (a30 : PySem.W.nsIn K mainGlobals "_law_part_word" = some (some (.ref f30))) (l30 : K.lookup f30 = some ⟨oc30, od30, .func (PySem.W.fnOf "_law_part_word" "_law_part_word" (defArgs s_law_part_word) (defBody s_law_part_word) (defScope s_law_part_word) .none kV30 dc30 pm30 an30 cd30 ct30), sl30⟩) (c30 : PySem.W.codeIn K cd30 "_law_part_word" = true) (k30 : PySem.W.keepIn K (.ref f30) = true)
    (a31 : PySem.W.nsIn K mainGlobals "_law_way_word" = some (some (.ref f31))) (l31 : K.lookup f31 = some ⟨oc31, od31, .func (PySem.W.fnOf "_law_way_word" "_law_way_word" (defArgs s_law_way_word) (defBody s_law_way_word) (defScope s_law_way_word) .none kV31 dc31 pm31 an31 cd31 ct31), sl31⟩) (c31 : PySem.W.codeIn K cd31 "_law_way_word" = true) (k31 : PySem.W.keepIn K (.ref f31) = true)
    (a32 : PySem.W.nsIn K mainGlobals "_law_world_word" = some (some (.ref f32))) (l32 : K.lookup f32 = some ⟨oc32, od32, .func (PySem.W.fnOf "_law_world_word" "_law_world_word" (defArgs s_law_world_word) (defBody s_law_world_word) (defScope s_law_world_word) .none kV32 dc32 pm32 an32 cd32 ct32), sl32⟩) (c32 : PySem.W.codeIn K cd32 "_law_world_word" = true) (k32 : PySem.W.keepIn K (.ref f32) = true)
    (a33 : PySem.W.nsIn K mainGlobals "_law_put" = some (some (.ref f33))) (l33 : K.lookup f33 = some ⟨oc33, od33, .func (PySem.W.fnOf "_law_put" "_law_put" (defArgs s_law_put) (defBody s_law_put) (defScope s_law_put) .none kV33 dc33 pm33 an33 cd33 ct33), sl33⟩) (c33 : PySem.W.codeIn K cd33 "_law_put" = true) (k33 : PySem.W.keepIn K (.ref f33) = true)
    (a34 : PySem.W.nsIn K mainGlobals "_law_edges" = some (some (.ref f34))) (l34 : K.lookup f34 = some ⟨oc34, od34, .func (PySem.W.fnOf "_law_edges" "_law_edges" (defArgs s_law_edges) (defBody s_law_edges) (defScope s_law_edges) .none kV34 dc34 pm34 an34 cd34 ct34), sl34⟩) (c34 : PySem.W.codeIn K cd34 "_law_edges" = true) (k34 : PySem.W.keepIn K (.ref f34) = true)
    (a35 : PySem.W.nsIn K mainGlobals "_law_two" = some (some (.ref f35))) (l35 : K.lookup f35 = some ⟨oc35, od35, .func (PySem.W.fnOf "_law_two" "_law_two" (defArgs s_law_two) (defBody s_law_two) (defScope s_law_two) .none kV35 dc35 pm35 an35 cd35 ct35), sl35⟩) (c35 : PySem.W.codeIn K cd35 "_law_two" = true) (k35 : PySem.W.keepIn K (.ref f35) = true)
    (a36 : PySem.W.nsIn K mainGlobals "law" = some (some (.ref f36))) (l36 : K.lookup f36 = some ⟨oc36, od36, .func (PySem.W.fnOf "law" "law" (defArgs s_law) (defBody s_law) (defScope s_law) .none kV36 dc36 pm36 an36 cd36 ct36), sl36⟩) (c36 : PySem.W.codeIn K cd36 "law" = true) (k36 : PySem.W.keepIn K (.ref f36) = true)
    (z_isinstance : PySem.W.nsIn K mainGlobals "isinstance" = some none)
    (z_int : PySem.W.nsIn K mainGlobals "int" = some none)
    (z_bool : PySem.W.nsIn K mainGlobals "bool" = some none)
    (z_str : PySem.W.nsIn K mainGlobals "str" = some none)
    (z_len : PySem.W.nsIn K mainGlobals "len" = some none)
    (z_all : PySem.W.nsIn K mainGlobals "all" = some none)
    (z_tuple : PySem.W.nsIn K mainGlobals "tuple" = some none)
    (z_zip : PySem.W.nsIn K mainGlobals "zip" = some none)
    (z_enumerate : PySem.W.nsIn K mainGlobals "enumerate" = some none)
    (z_list : PySem.W.nsIn K mainGlobals "list" = some none)
    (z_range : PySem.W.nsIn K mainGlobals "range" = some none)
    (z_sorted : PySem.W.nsIn K mainGlobals "sorted" = some none)
    (z_min : PySem.W.nsIn K mainGlobals "min" = some none)
    {t_ROUND : Tok} (y_ROUND : PySem.W.nsIn K mainGlobals "ROUND" = some (some (.int 6 t_ROUND)))
    {t_KINDS : Tok} (y_KINDS : PySem.W.nsIn K mainGlobals "KINDS" = some (some (.int 4 t_KINDS)))
    {t_SOURCES : Tok} (y_SOURCES : PySem.W.nsIn K mainGlobals "SOURCES" = some (some (.int 6 t_SOURCES)))
    {t_OLD : Tok} (y_OLD : PySem.W.nsIn K mainGlobals "OLD" = some (some (.int 20 t_OLD)))
    {t_SINCE : Tok} (y_SINCE : PySem.W.nsIn K mainGlobals "SINCE" = some (some (.int 1000000 t_SINCE)))
    {t_MANY : Tok} (y_MANY : PySem.W.nsIn K mainGlobals "MANY" = some (some (.int 9 t_MANY)))
    {t_WAYS : Tok} (y_WAYS : PySem.W.nsIn K mainGlobals "WAYS" = some (some (.int 8 t_WAYS)))
    {t_PARTS : Tok} (y_PARTS : PySem.W.nsIn K mainGlobals "PARTS" = some (some (.int 3 t_PARTS)))
    {t_WAIT : Tok} (y_WAIT : PySem.W.nsIn K mainGlobals "WAIT" = some (some (.int 6 t_WAIT)))
    {t_READY : Tok} (y_READY : PySem.W.nsIn K mainGlobals "READY" = some (some (.int 26 t_READY)))
    {t_FAR : Tok} (y_FAR : PySem.W.nsIn K mainGlobals "FAR" = some (some (.int 1000000000000000 t_FAR)))
    {t_LAST : Tok} (y_LAST : PySem.W.nsIn K mainGlobals "LAST" = some (some (.int 3000000000000000 t_LAST)))
    {t_ITEMS : Tok} (y_ITEMS : PySem.W.nsIn K mainGlobals "ITEMS" = some (some (.int 4 t_ITEMS)))
    {t_LATE : Tok} (y_LATE : PySem.W.nsIn K mainGlobals "LATE" = some (some (.int 60 t_LATE)))
    {t_LOST : Tok} (y_LOST : PySem.W.nsIn K mainGlobals "LOST" = some (some (.int 12 t_LOST)))
    {t_SPENT : Tok} (y_SPENT : PySem.W.nsIn K mainGlobals "SPENT" = some (some (.int 7 t_SPENT)))
    {t_DEEDS : Tok} (y_DEEDS : PySem.W.nsIn K mainGlobals "DEEDS" = some (some (.int 40 t_DEEDS)))
    {t_NAME_LENGTH : Tok} (y_NAME_LENGTH : PySem.W.nsIn K mainGlobals "NAME_LENGTH" = some (some (.int 8 t_NAME_LENGTH)))
    {t_LETTERS : Tok} (y_LETTERS : PySem.W.nsIn K mainGlobals "LETTERS" = some (some (.str (Str.ofString "abcdefghijklmnopqrstuvwxyz") t_LETTERS)))
    : ∃ fd : FuncData, (∀ (s : Shared) (v : Value), BindsTo s fd ⟨[v], []⟩ [("_law_script", v)]) ∧ ∀ base : Heap, K.In base → base.Ns mainGlobals mg → FnOk l.prog w K mg base CX0 8 fa fd ["_law_script"] (spLaw K) := by
  have e := hfa.symm.trans (PySem.W.mg_of X G a36)
  cases e
  have F0 := fun_mk (st := s_is_number) l0 c0 k0
  have b0 := F0.binds (ps := ["thing"]) fun _ _ _ _ _ _ us hl => match us, hl with | [_], _ => rfl
  have g0 := PySem.W.mg_of X G a0
  have F1 := fun_mk (st := s_is_number_from) l1 c1 k1
  have b1 := F1.binds (ps := ["thing", "low", "high"]) fun _ _ _ _ _ _ us hl => match us, hl with | [_, _, _], _ => rfl
  have g1 := PySem.W.mg_of X G a1
  have F2 := fun_mk (st := s_is_name) l2 c2 k2
  have b2 := F2.binds (ps := ["thing"]) fun _ _ _ _ _ _ us hl => match us, hl with | [_], _ => rfl
  have g2 := PySem.W.mg_of X G a2
  have F3 := fun_mk (st := s_is_row) l3 c3 k3
  have b3 := F3.binds (ps := ["thing", "fewest", "most"]) fun _ _ _ _ _ _ us hl => match us, hl with | [_, _, _], _ => rfl
  have g3 := PySem.W.mg_of X G a3
  have F4 := fun_mk (st := s_is_rising) l4 c4 k4
  have b4 := F4.binds (ps := ["row"]) fun _ _ _ _ _ _ us hl => match us, hl with | [_], _ => rfl
  have g4 := PySem.W.mg_of X G a4
  have F5 := fun_mk (st := s_part_fault) l5 c5 k5
  have b5 := F5.binds (ps := ["kinds", "part"]) fun _ _ _ _ _ _ us hl => match us, hl with | [_, _], _ => rfl
  have g5 := PySem.W.mg_of X G a5
  have F6 := fun_mk (st := s_fault_below) l6 c6 k6
  have b6 := F6.binds (ps := ["path", "fault"]) fun _ _ _ _ _ _ us hl => match us, hl with | [_, _], _ => rfl
  have g6 := PySem.W.mg_of X G a6
  have F7 := fun_mk (st := s_parts_fault) l7 c7 k7
  have b7 := F7.binds (ps := ["kinds", "parts"]) fun _ _ _ _ _ _ us hl => match us, hl with | [_, _], _ => rfl
  have g7 := PySem.W.mg_of X G a7
  have F8 := fun_mk (st := s_is_hours) l8 c8 k8
  have b8 := F8.binds (ps := ["span", "hours"]) fun _ _ _ _ _ _ us hl => match us, hl with | [_, _], _ => rfl
  have g8 := PySem.W.mg_of X G a8
  have F9 := fun_mk (st := s_source_fault) l9 c9 k9
  have b9 := F9.binds (ps := ["span", "kinds", "source"]) fun _ _ _ _ _ _ us hl => match us, hl with | [_, _, _], _ => rfl
  have g9 := PySem.W.mg_of X G a9
  have F10 := fun_mk (st := s_way_fault) l10 c10 k10
  have b10 := F10.binds (ps := ["span", "kinds", "way"]) fun _ _ _ _ _ _ us hl => match us, hl with | [_, _, _], _ => rfl
  have g10 := PySem.W.mg_of X G a10
  have F11 := fun_mk (st := s_kinds_fault) l11 c11 k11
  have b11 := F11.binds (ps := ["kinds"]) fun _ _ _ _ _ _ us hl => match us, hl with | [_], _ => rfl
  have g11 := PySem.W.mg_of X G a11
  have F12 := fun_mk (st := s_sources_fault) l12 c12 k12
  have b12 := F12.binds (ps := ["span", "kinds", "sources"]) fun _ _ _ _ _ _ us hl => match us, hl with | [_, _, _], _ => rfl
  have g12 := PySem.W.mg_of X G a12
  have F13 := fun_mk (st := s_ways_fault) l13 c13 k13
  have b13 := F13.binds (ps := ["span", "kinds", "ways"]) fun _ _ _ _ _ _ us hl => match us, hl with | [_, _, _], _ => rfl
  have g13 := PySem.W.mg_of X G a13
  have F14 := fun_mk (st := s_worldfault) l14 c14 k14
  have b14 := F14.binds (ps := ["thing"]) fun _ _ _ _ _ _ us hl => match us, hl with | [_], _ => rfl
  have g14 := PySem.W.mg_of X G a14
  have F15 := fun_mk (st := s_law_draws) l15 c15 k15
  have b15 := F15.binds (ps := ["_law_script"]) fun _ _ _ _ _ _ us hl => match us, hl with | [_], _ => rfl
  have g15 := PySem.W.mg_of X G a15
  have F16 := fun_mk (st := s_law_next) l16 c16 k16
  have b16 := F16.binds (ps := ["_law_drawn", "_law_below"]) fun _ _ _ _ _ _ us hl => match us, hl with | [_, _], _ => rfl
  have g16 := PySem.W.mg_of X G a16
  have F17 := fun_mk (st := s_law_one) l17 c17 k17
  have b17 := F17.binds (ps := ["_law_drawn", "_law_wares"]) fun _ _ _ _ _ _ us hl => match us, hl with | [_, _], _ => rfl
  have g17 := PySem.W.mg_of X G a17
  have F18 := fun_mk (st := s_law_alike) l18 c18 k18
  have b18 := F18.binds (ps := ["_law_one_here", "_law_other"]) fun _ _ _ _ _ _ us hl => match us, hl with | [_, _], _ => rfl
  have g18 := PySem.W.mg_of X G a18
  have F19 := fun_mk (st := s_law_kinds) l19 c19 k19
  have b19 := F19.binds (ps := ["_law_drawn", "_law_many"]) fun _ _ _ _ _ _ us hl => match us, hl with | [_, _], _ => rfl
  have g19 := PySem.W.mg_of X G a19
  have F20 := fun_mk (st := s_law_source) l20 c20 k20
  have b20 := F20.binds (ps := ["_law_drawn", "_law_size", "_law_kinds_here", "_law_old"]) fun _ _ _ _ _ _ us hl => match us, hl with | [_, _, _, _], _ => rfl
  have g20 := PySem.W.mg_of X G a20
  have F21 := fun_mk (st := s_law_part) l21 c21 k21
  have b21 := F21.binds (ps := ["_law_drawn", "_law_kinds_here", "_law_old"]) fun _ _ _ _ _ _ us hl => match us, hl with | [_, _, _], _ => rfl
  have g21 := PySem.W.mg_of X G a21
  have F22 := fun_mk (st := s_law_way) l22 c22 k22
  have b22 := F22.binds (ps := ["_law_drawn", "_law_size", "_law_kinds_here", "_law_old"]) fun _ _ _ _ _ _ us hl => match us, hl with | [_, _, _, _], _ => rfl
  have g22 := PySem.W.mg_of X G a22
  have F23 := fun_mk (st := s_law_world) l23 c23 k23
  have b23 := F23.binds (ps := ["_law_drawn", "_law_wide", "_law_old"]) fun _ _ _ _ _ _ us hl => match us, hl with | [_, _, _], _ => rfl
  have g23 := PySem.W.mg_of X G a23
  have F24 := fun_mk (st := s_law_is) l24 c24 k24
  have b24 := F24.binds (ps := ["_law_thing", "_law_low", "_law_high"]) fun _ _ _ _ _ _ us hl => match us, hl with | [_, _, _], _ => rfl
  have g24 := PySem.W.mg_of X G a24
  have F25 := fun_mk (st := s_law_name) l25 c25 k25
  have b25 := F25.binds (ps := ["_law_thing"]) fun _ _ _ _ _ _ us hl => match us, hl with | [_], _ => rfl
  have g25 := PySem.W.mg_of X G a25
  have F26 := fun_mk (st := s_law_row_of) l26 c26 k26
  have b26 := F26.binds (ps := ["_law_thing", "_law_few", "_law_many"]) fun _ _ _ _ _ _ us hl => match us, hl with | [_, _, _], _ => rfl
  have g26 := PySem.W.mg_of X G a26
  have F27 := fun_mk (st := s_law_kind_in) l27 c27 k27
  have b27 := F27.binds (ps := ["_law_kinds_here", "_law_thing"]) fun _ _ _ _ _ _ us hl => match us, hl with | [_, _], _ => rfl
  have g27 := PySem.W.mg_of X G a27
  have F28 := fun_mk (st := s_law_rising) l28 c28 k28
  have b28 := F28.binds (ps := ["_law_thing", "_law_many"]) fun _ _ _ _ _ _ us hl => match us, hl with | [_, _], _ => rfl
  have g28 := PySem.W.mg_of X G a28
  have F29 := fun_mk (st := s_law_source_word) l29 c29 k29
  have b29 := F29.binds (ps := ["_law_size", "_law_kinds_here", "_law_source_here"]) fun _ _ _ _ _ _ us hl => match us, hl with | [_, _, _], _ => rfl
  have g29 := PySem.W.mg_of X G a29
  have F30 := fun_mk (st := s_law_part_word) l30 c30 k30
  have b30 := F30.binds (ps := ["_law_kinds_here", "_law_part_here"]) fun _ _ _ _ _ _ us hl => match us, hl with | [_, _], _ => rfl
  have g30 := PySem.W.mg_of X G a30
  have F31 := fun_mk (st := s_law_way_word) l31 c31 k31
  have b31 := F31.binds (ps := ["_law_size", "_law_kinds_here", "_law_way_here"]) fun _ _ _ _ _ _ us hl => match us, hl with | [_, _, _], _ => rfl
  have g31 := PySem.W.mg_of X G a31
  have F32 := fun_mk (st := s_law_world_word) l32 c32 k32
  have b32 := F32.binds (ps := ["_law_thing"]) fun _ _ _ _ _ _ us hl => match us, hl with | [_], _ => rfl
  have g32 := PySem.W.mg_of X G a32
  have F33 := fun_mk (st := s_law_put) l33 c33 k33
  have b33 := F33.binds (ps := ["_law_row", "_law_spot", "_law_thing"]) fun _ _ _ _ _ _ us hl => match us, hl with | [_, _, _], _ => rfl
  have g33 := PySem.W.mg_of X G a33
  have F34 := fun_mk (st := s_law_edges) l34 c34 k34
  have b34 := F34.binds (ps := ["_law_drawn", "_law_world_here"]) fun _ _ _ _ _ _ us hl => match us, hl with | [_, _], _ => rfl
  have g34 := PySem.W.mg_of X G a34
  have F35 := fun_mk (st := s_law_two) l35 c35 k35
  have b35 := F35.binds (ps := ["_law_drawn", "_law_world_here"]) fun _ _ _ _ _ _ us hl => match us, hl with | [_, _], _ => rfl
  have g35 := PySem.W.mg_of X G a35
  have F36 := fun_mk (st := s_law) l36 c36 k36
  have b36 := F36.binds (ps := ["_law_script"]) fun _ _ _ _ _ _ us hl => match us, hl with | [_], _ => rfl
  have g36 := PySem.W.mg_of X G a36
  have m_isinstance := PySem.W.mg_none_of X G z_isinstance
  have m_int := PySem.W.mg_none_of X G z_int
  have m_bool := PySem.W.mg_none_of X G z_bool
  have m_str := PySem.W.mg_none_of X G z_str
  have m_len := PySem.W.mg_none_of X G z_len
  have m_all := PySem.W.mg_none_of X G z_all
  have m_tuple := PySem.W.mg_none_of X G z_tuple
  have m_zip := PySem.W.mg_none_of X G z_zip
  have m_enumerate := PySem.W.mg_none_of X G z_enumerate
  have m_list := PySem.W.mg_none_of X G z_list
  have m_range := PySem.W.mg_none_of X G z_range
  have m_sorted := PySem.W.mg_none_of X G z_sorted
  have m_min := PySem.W.mg_none_of X G z_min
  have g_ROUND := PySem.W.mg_of X G y_ROUND
  have g_KINDS := PySem.W.mg_of X G y_KINDS
  have g_SOURCES := PySem.W.mg_of X G y_SOURCES
  have g_OLD := PySem.W.mg_of X G y_OLD
  have g_SINCE := PySem.W.mg_of X G y_SINCE
  have g_MANY := PySem.W.mg_of X G y_MANY
  have g_WAYS := PySem.W.mg_of X G y_WAYS
  have g_PARTS := PySem.W.mg_of X G y_PARTS
  have g_WAIT := PySem.W.mg_of X G y_WAIT
  have g_READY := PySem.W.mg_of X G y_READY
  have g_FAR := PySem.W.mg_of X G y_FAR
  have g_LAST := PySem.W.mg_of X G y_LAST
  have g_ITEMS := PySem.W.mg_of X G y_ITEMS
  have g_LATE := PySem.W.mg_of X G y_LATE
  have g_LOST := PySem.W.mg_of X G y_LOST
  have g_SPENT := PySem.W.mg_of X G y_SPENT
  have g_DEEDS := PySem.W.mg_of X G y_DEEDS
  have g_NAME_LENGTH := PySem.W.mg_of X G y_NAME_LENGTH
  have g_LETTERS := PySem.W.mg_of X G y_LETTERS
  refine ⟨PySem.W.fnOf "law" "law" (defArgs s_law) (defBody s_law) (defScope s_law) .none kV36 dc36 pm36 an36 cd36 ct36, fun s v => .of_eq rfl, fun base _ _ => ?_⟩
  have C0 : Cl l.prog w K mg base 1 "is_number" ["thing"] (spD 1 sNum) := ⟨f0, _, ok_num F0 m_isinstance m_int m_bool, g0, F0.kp, b0⟩
  have C1 : Cl l.prog w K mg base 2 "is_number_from" ["thing", "low", "high"] (spD 3 sFrom) := ⟨f1, _, ok_from F1 C0, g1, F1.kp, b1⟩
  have C2 : Cl l.prog w K mg base 1 "is_name" ["thing"] (spD 1 sName) := ⟨f2, _, ok_name F2 m_isinstance m_str m_len m_all g_LETTERS g_NAME_LENGTH, g2, F2.kp, b2⟩
  have C3 : Cl l.prog w K mg base 1 "is_row" ["thing", "fewest", "most"] (spD 3 sRow) := ⟨f3, _, ok_row F3 m_isinstance m_tuple m_len, g3, F3.kp, b3⟩
  have C4 : Cl l.prog w K mg base 1 "is_rising" ["row"] (spD 1 sRis) := ⟨f4, _, ok_ris F4 m_all m_zip, g4, F4.kp, b4⟩
  have C5 : Cl l.prog w K mg base 3 "part_fault" ["kinds", "part"] (spD 2 sPartF) := ⟨f5, _, ok_partF F5 g_OLD C3 C1, g5, F5.kp, b5⟩
  have C6 : Cl l.prog w K mg base 1 "fault_below" ["path", "fault"] (spD 2 sBelow) := ⟨f6, _, ok_below F6, g6, F6.kp, b6⟩
  have C7 : Cl l.prog w K mg base 4 "parts_fault" ["kinds", "parts"] (spD 2 sPartsF) := ⟨f7, _, ok_partsF F7 g_PARTS m_enumerate C3 C5 C6, g7, F7.kp, b7⟩
  have C8 : Cl l.prog w K mg base 3 "is_hours" ["span", "hours"] (spD 2 sHours) := ⟨f8, _, ok_hours F8 m_all C3 C1 C4, g8, F8.kp, b8⟩
  have C9 : Cl l.prog w K mg base 3 "source_fault" ["span", "kinds", "source"] (spD 3 sSrc) := ⟨f9, _, ok_src F9 g_OLD g_SINCE g_MANY C3 C1, g9, F9.kp, b9⟩
  have C10 : Cl l.prog w K mg base 5 "way_fault" ["span", "kinds", "way"] (spD 3 sWay) := ⟨f10, _, ok_wayF F10 g_WAIT C3 C1 C7 C6 C8, g10, F10.kp, b10⟩
  have C11 : Cl l.prog w K mg base 2 "kinds_fault" ["kinds"] (spD 1 sKindsF) := ⟨f11, _, ok_kindsF F11 m_enumerate g_KINDS C3 C2, g11, F11.kp, b11⟩
  have C12 : Cl l.prog w K mg base 4 "sources_fault" ["span", "kinds", "sources"] (spD 3 sSrcs) := ⟨f12, _, ok_srcs F12 g_SOURCES m_enumerate C3 C9 C6, g12, F12.kp, b12⟩
  have C13 : Cl l.prog w K mg base 6 "ways_fault" ["span", "kinds", "ways"] (spD 3 sWays) := ⟨f13, _, ok_ways F13 g_WAYS m_enumerate C3 C10 C6, g13, F13.kp, b13⟩
  have C14 : Cl l.prog w K mg base 7 "worldfault" ["thing"] (spD 1 sWorldF) := ⟨f14, _, ok_worldF F14 g_ROUND C3 C1 C11 C12 C13, g14, F14.kp, b14⟩
  have C15 : Cl l.prog w K mg base 1 "_law_draws" ["_law_script"] (spDraws K) := ⟨f15, _, ok_draws F15 m_len m_list m_int, g15, F15.kp, b15⟩
  have C16 : Cl l.prog w K mg base 1 "_law_next" ["_law_drawn", "_law_below"] (spN 1 gNext) := ⟨f16, _, ok_nextN (ok_next (k := 0) F16 m_len), g16, F16.kp, b16⟩
  have CF_next : Cl l.prog w K mg base 1 "_law_next" ["_law_drawn", "_law_below"] spNext := ⟨f16, _, ok_next (k := 0) F16 m_len, g16, F16.kp, b16⟩
  have C17 : Cl l.prog w K mg base 2 "_law_one" ["_law_drawn", "_law_wares"] (spN 1 gOne) := ⟨f17, _, ok_oneN F17 m_len C16, g17, F17.kp, b17⟩
  have CF_one : Cl l.prog w K mg base 2 "_law_one" ["_law_drawn", "_law_wares"] (spOne K) := ⟨f17, _, ok_one F17 m_len CF_next, g17, F17.kp, b17⟩
  have C18 : Cl l.prog w K mg base 3 "_law_alike" ["_law_one_here", "_law_other"] (spD 2 (sAl (dpA 3))) := ⟨f18, _, ok_alike F18 b18 g18 m_isinstance m_tuple m_bool m_int m_str m_len m_all m_zip, g18, F18.kp, b18⟩
  have C19 : Cl l.prog w K mg base 3 "_law_kinds" ["_law_drawn", "_law_many"] (spN 1 gKinds) := ⟨f19, _, ok_kinds (ok_kindsF' F19 m_range m_sorted m_tuple CF_next CF_one), g19, F19.kp, b19⟩
  have C20 : Cl l.prog w K mg base 3 "_law_source" ["_law_drawn", "_law_size", "_law_kinds_here", "_law_old"] (spN 3 gSource) := ⟨f20, _, ok_source F20 C16 C17, g20, F20.kp, b20⟩
  have C21 : Cl l.prog w K mg base 3 "_law_part" ["_law_drawn", "_law_kinds_here", "_law_old"] (spN 2 gPart) := ⟨f21, _, ok_part F21 m_min C16 C17, g21, F21.kp, b21⟩
  have C22 : Cl l.prog w K mg base 4 "_law_way" ["_law_drawn", "_law_size", "_law_kinds_here", "_law_old"] (spN 3 gWay) := ⟨f22, _, ok_way F22 m_range m_tuple C16 C17 C21, g22, F22.kp, b22⟩
  have C23 : Cl l.prog w K mg base 5 "_law_world" ["_law_drawn", "_law_wide", "_law_old"] (spN 2 gWorld) := ⟨f23, _, ok_world F23 m_range m_tuple C16 C19 C20 C22, g23, F23.kp, b23⟩
  have C24 : Cl l.prog w K mg base 1 "_law_is" ["_law_thing", "_law_low", "_law_high"] (spD 3 sFrom) := ⟨f24, _, ok_is F24 m_isinstance m_int m_bool, g24, F24.kp, b24⟩
  have C25 : Cl l.prog w K mg base 1 "_law_name" ["_law_thing"] (spD 1 sNameX) := ⟨f25, _, ok_nameW F25 m_isinstance m_str m_len, g25, F25.kp, b25⟩
  have C26 : Cl l.prog w K mg base 1 "_law_row_of" ["_law_thing", "_law_few", "_law_many"] (spD 3 sRow) := ⟨f26, _, ok_rowW F26 m_isinstance m_tuple m_len, g26, F26.kp, b26⟩
  have C27 : Cl l.prog w K mg base 1 "_law_kind_in" ["_law_kinds_here", "_law_thing"] (spD 2 sKindIn) := ⟨f27, _, ok_kindW F27 m_isinstance m_str, g27, F27.kp, b27⟩
  have C28 : Cl l.prog w K mg base 2 "_law_rising" ["_law_thing", "_law_many"] (spD 2 sRisX) := ⟨f28, _, ok_risW F28 m_isinstance m_tuple m_range m_len C24, g28, F28.kp, b28⟩
  have C29 : Cl l.prog w K mg base 2 "_law_source_word" ["_law_size", "_law_kinds_here", "_law_source_here"] (spD 3 sSrcX) := ⟨f29, _, ok_srcW F29 m_range C26 C24 C27, g29, F29.kp, b29⟩
  have C30 : Cl l.prog w K mg base 2 "_law_part_word" ["_law_kinds_here", "_law_part_here"] (spD 2 sPartX) := ⟨f30, _, ok_partW F30 m_int C26 C24 C27, g30, F30.kp, b30⟩
  have C31 : Cl l.prog w K mg base 3 "_law_way_word" ["_law_size", "_law_kinds_here", "_law_way_here"] (spD 3 sWayX) := ⟨f31, _, ok_wayW F31 m_range m_len m_isinstance m_str m_int C26 C24 C27 C30 C28, g31, F31.kp, b31⟩
  have C32 : Cl l.prog w K mg base 4 "_law_world_word" ["_law_thing"] (spD 1 sWorldX) := ⟨f32, _, ok_worldW F32 m_range m_len C26 C24 C25 C29 C31, g32, F32.kp, b32⟩
  have C33 : Cl l.prog w K mg base 1 "_law_put" ["_law_row", "_law_spot", "_law_thing"] (spD 3 sPut) := ⟨f33, _, ok_put F33, g33, F33.kp, b33⟩
  have C34 : Cl l.prog w K mg base 2 "_law_edges" ["_law_drawn", "_law_world_here"] (spN 1 gEdges) := ⟨f34, _, ok_edges F34 m_tuple m_range C33, g34, F34.kp, b34⟩
  have C35 : Cl l.prog w K mg base 3 "_law_two" ["_law_drawn", "_law_world_here"] (spN 1 gTwo) := ⟨f35, _, ok_two F35 C17 C33, g35, F35.kp, b35⟩
  exact ok_law F36 m_range g_ROUND g_KINDS g_SOURCES g_OLD g_SINCE g_MANY g_WAYS g_PARTS g_WAIT g_READY g_FAR g_LAST g_ITEMS g_LATE g_LOST g_SPENT g_DEEDS C15 C23 C34 C35 C18 C14 C32
end Dl
open PySem PySem.W PyProof.Rows
set_option maxHeartbeats 0 in
theorem PySem.Challenge.cw_rightage_k01_worlds_at_their_bounds_holds : PySem.Challenge.rw_rightage_k01_worlds_at_their_bounds.Holds := by
  w_on; o_law; k_head; (case hw => w_witness2)
  k_fill
  refine L2.walk_of (l := PySem.Challenge.rw_rightage_k01_worlds_at_their_bounds) (n := 63) (k := 8) (x := "_law_script") (CX := fun _ => L2.CX0) (sp := fun w => Dl.spLaw _) rfl (by decide) rfl ⟨rfl, by decide, by decide⟩ (fun w h Y => PySem.W.kIn_of Y) ?F (fun _ _ a ns hl _ hS => ⟨a, ns, rfl, hS, hl, fun _ => rfl⟩) (fun _ _ _ _ _ h => h)
  case F =>
    intro w mg fa h KX G hmg
    refine' Dl.all_mk KX G hmg ?a0 ?l0 ?c0 ?k0 ?a1 ?l1 ?c1 ?k1 ?a2 ?l2 ?c2 ?k2 ?a3 ?l3 ?c3 ?k3 ?a4 ?l4 ?c4 ?k4 ?a5 ?l5 ?c5 ?k5 ?a6 ?l6 ?c6 ?k6 ?a7 ?l7 ?c7 ?k7 ?a8 ?l8 ?c8 ?k8 ?a9 ?l9 ?c9 ?k9 ?a10 ?l10 ?c10 ?k10 ?a11 ?l11 ?c11 ?k11 ?a12 ?l12 ?c12 ?k12 ?a13 ?l13 ?c13 ?k13 ?a14 ?l14 ?c14 ?k14 ?a15 ?l15 ?c15 ?k15 ?a16 ?l16 ?c16 ?k16 ?a17 ?l17 ?c17 ?k17 ?a18 ?l18 ?c18 ?k18 ?a19 ?l19 ?c19 ?k19 ?a20 ?l20 ?c20 ?k20 ?a21 ?l21 ?c21 ?k21 ?a22 ?l22 ?c22 ?k22 ?a23 ?l23 ?c23 ?k23 ?a24 ?l24 ?c24 ?k24 ?a25 ?l25 ?c25 ?k25 ?a26 ?l26 ?c26 ?k26 ?a27 ?l27 ?c27 ?k27 ?a28 ?l28 ?c28 ?k28 ?a29 ?l29 ?c29 ?k29 ?a30 ?l30 ?c30 ?k30 ?a31 ?l31 ?c31 ?k31 ?a32 ?l32 ?c32 ?k32 ?a33 ?l33 ?c33 ?k33 ?a34 ?l34 ?c34 ?k34 ?a35 ?l35 ?c35 ?k35 ?a36 ?l36 ?c36 ?k36 ?z_isinstance ?z_int ?z_bool ?z_str ?z_len ?z_all ?z_tuple ?z_zip ?z_enumerate ?z_list ?z_range ?z_sorted ?z_min ?y_ROUND ?y_KINDS ?y_SOURCES ?y_OLD ?y_SINCE ?y_MANY ?y_WAYS ?y_PARTS ?y_WAIT ?y_READY ?y_FAR ?y_LAST ?y_ITEMS ?y_LATE ?y_LOST ?y_SPENT ?y_DEEDS ?y_NAME_LENGTH ?y_LETTERS
    (case a0 => k_is)
    (case l0 => k_is)
    (case c0 => k_is)
    (case k0 => k_is)
    (case a1 => k_is)
    (case l1 => k_is)
    (case c1 => k_is)
    (case k1 => k_is)
    (case a2 => k_is)
    (case l2 => k_is)
    (case c2 => k_is)
    (case k2 => k_is)
    (case a3 => k_is)
    (case l3 => k_is)
    (case c3 => k_is)
    (case k3 => k_is)
    (case a4 => k_is)
    (case l4 => k_is)
    (case c4 => k_is)
    (case k4 => k_is)
    (case a5 => k_is)
    (case l5 => k_is)
    (case c5 => k_is)
    (case k5 => k_is)
    (case a6 => k_is)
    (case l6 => k_is)
    (case c6 => k_is)
    (case k6 => k_is)
    (case a7 => k_is)
    (case l7 => k_is)
    (case c7 => k_is)
    (case k7 => k_is)
    (case a8 => k_is)
    (case l8 => k_is)
    (case c8 => k_is)
    (case k8 => k_is)
    (case a9 => k_is)
    (case l9 => k_is)
    (case c9 => k_is)
    (case k9 => k_is)
    (case a10 => k_is)
    (case l10 => k_is)
    (case c10 => k_is)
    (case k10 => k_is)
    (case a11 => k_is)
    (case l11 => k_is)
    (case c11 => k_is)
    (case k11 => k_is)
    (case a12 => k_is)
    (case l12 => k_is)
    (case c12 => k_is)
    (case k12 => k_is)
    (case a13 => k_is)
    (case l13 => k_is)
    (case c13 => k_is)
    (case k13 => k_is)
    (case a14 => k_is)
    (case l14 => k_is)
    (case c14 => k_is)
    (case k14 => k_is)
    (case a15 => k_is)
    (case l15 => k_is)
    (case c15 => k_is)
    (case k15 => k_is)
    (case a16 => k_is)
    (case l16 => k_is)
    (case c16 => k_is)
    (case k16 => k_is)
    (case a17 => k_is)
    (case l17 => k_is)
    (case c17 => k_is)
    (case k17 => k_is)
    (case a18 => k_is)
    (case l18 => k_is)
    (case c18 => k_is)
    (case k18 => k_is)
    (case a19 => k_is)
    (case l19 => k_is)
    (case c19 => k_is)
    (case k19 => k_is)
    (case a20 => k_is)
    (case l20 => k_is)
    (case c20 => k_is)
    (case k20 => k_is)
    (case a21 => k_is)
    (case l21 => k_is)
    (case c21 => k_is)
    (case k21 => k_is)
    (case a22 => k_is)
    (case l22 => k_is)
    (case c22 => k_is)
    (case k22 => k_is)
    (case a23 => k_is)
    (case l23 => k_is)
    (case c23 => k_is)
    (case k23 => k_is)
    (case a24 => k_is)
    (case l24 => k_is)
    (case c24 => k_is)
    (case k24 => k_is)
    (case a25 => k_is)
    (case l25 => k_is)
    (case c25 => k_is)
    (case k25 => k_is)
    (case a26 => k_is)
    (case l26 => k_is)
    (case c26 => k_is)
    (case k26 => k_is)
    (case a27 => k_is)
    (case l27 => k_is)
    (case c27 => k_is)
    (case k27 => k_is)
    (case a28 => k_is)
    (case l28 => k_is)
    (case c28 => k_is)
    (case k28 => k_is)
    (case a29 => k_is)
    (case l29 => k_is)
    (case c29 => k_is)
    (case k29 => k_is)
    (case a30 => k_is)
    (case l30 => k_is)
    (case c30 => k_is)
    (case k30 => k_is)
    (case a31 => k_is)
    (case l31 => k_is)
    (case c31 => k_is)
    (case k31 => k_is)
    (case a32 => k_is)
    (case l32 => k_is)
    (case c32 => k_is)
    (case k32 => k_is)
    (case a33 => k_is)
    (case l33 => k_is)
    (case c33 => k_is)
    (case k33 => k_is)
    (case a34 => k_is)
    (case l34 => k_is)
    (case c34 => k_is)
    (case k34 => k_is)
    (case a35 => k_is)
    (case l35 => k_is)
    (case c35 => k_is)
    (case k35 => k_is)
    (case a36 => k_is)
    (case l36 => k_is)
    (case c36 => k_is)
    (case k36 => k_is)
    (case z_isinstance => k_is)
    (case z_int => k_is)
    (case z_bool => k_is)
    (case z_str => k_is)
    (case z_len => k_is)
    (case z_all => k_is)
    (case z_tuple => k_is)
    (case z_zip => k_is)
    (case z_enumerate => k_is)
    (case z_list => k_is)
    (case z_range => k_is)
    (case z_sorted => k_is)
    (case z_min => k_is)
    (case y_ROUND => k_is)
    (case y_KINDS => k_is)
    (case y_SOURCES => k_is)
    (case y_OLD => k_is)
    (case y_SINCE => k_is)
    (case y_MANY => k_is)
    (case y_WAYS => k_is)
    (case y_PARTS => k_is)
    (case y_WAIT => k_is)
    (case y_READY => k_is)
    (case y_FAR => k_is)
    (case y_LAST => k_is)
    (case y_ITEMS => k_is)
    (case y_LATE => k_is)
    (case y_LOST => k_is)
    (case y_SPENT => k_is)
    (case y_DEEDS => k_is)
    (case y_NAME_LENGTH => k_is)
    (case y_LETTERS => k_is)
