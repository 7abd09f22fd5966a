import PyProof.Rows.All
import Wide.All
import OpenK.AllK
import Wide.FinOn
import HandS.ForMost
import HandS.Wide
import HandS.NoneIn
import HandS.IsInst
import HandS.Zip
import HandS.Walk
import HandS.Style
import HandS.CallLocal
import HandS.TupAny
import HandS.TupMul
import KE.GoesEnum
import HandS.Conv
import HandS.Strs
import PyProof.ReprRoads
import PyProof.ReprLen
import PyProof.FitsInt
import KE.DatumOrd
import PySem.Challenge.RW_rightage_k14_tables_put_together
set_option Elab.async false
set_option linter.all false
set_option maxRecDepth 100000
set_option maxHeartbeats 4000000
namespace Rt
open PySem PySem.Spec PyProof.Rows L2

/-! ### a def of the text as its callers see it -/
structure Cl (P : Program) (w : World) (K : PySem.W.Frag) (mg : Str → Option Value) (base : Heap) (k : Nat) (x : Str) (ps : List Str) (sp : Sp) : Prop where
  ex : ∃ (f : Addr) (fd : FuncData), FnOk P w K mg base CX0 k f fd ps sp ∧ mg x = some (.ref f) ∧ PySem.W.keepIn K (.ref f) = true ∧ Binds K fd ps []
section
variable {X : Cx}
theorem pe_cl {k : Nat} {x : Str} {ps : List Str} {sp : Sp} {p pos : Pos} {e : Expr} {es : List Expr} {t : TA} (C : Cl X.prog X.w X.K X.mg X.base k x ps sp) (hr : Room k X.A) (hg : Gl X x) (ha : PA X (e :: es) t)
    (hdb : (x == ("__debug__" : Str)) = false := by decide) (he : starEach (e :: es) X.env = (false, eval e X.env) :: starEach es X.env := by rfl) (hpl : (backTo pos (starEach es X.env)).any (·.1) = false := by rfl) :
    PE X (.Call (.Name x p) (e :: es) [] pos) (tCall sp [] E0 t) := by
  obtain ⟨f, fd, F, hm, hk, hb⟩ := C.ex
  exact pe_call F hr hg hm hk hb .nil pass0 ha hdb he hpl
end


/-! ### rules that hand on letters -/
section
variable {X : Cx}
theorem OpR.weak {f : Value → Value → Sem Value} {r r' : R2} (o : OpR X f r) (m : ∀ x y H Q, r' x y H Q → r x y H Q) : OpR X f r' := fun pn s σ H x y v u Q I a b q => o pn s σ H x y v u Q I a b (m _ _ _ _ q)
def rModL : R2 := fun x y H Q => ∃ i j : Int, x = .int i ∧ y = .int j ∧ 0 < j ∧ ∀ z : Int, z = i % j → 0 ≤ z → z < j → Q (.int z) H
theorem op_modL : OpR X (binaryOp .Mod) rModL := OpR.weak op_mod fun x y H Q h => by
  obtain ⟨i, j, rfl, rfl, hj, q⟩ := h
  exact ⟨i, j, rfl, rfl, hj, q _ rfl (Int.emod_nonneg _ (by omega)) (Int.emod_lt_of_pos _ hj)⟩
def rPowL : R2 := fun x y H Q => ∃ i j : Int, x = .int i ∧ y = .int j ∧ 0 ≤ j ∧ j ≤ 1000000 ∧ i.natAbs < 2 ^ 64 ∧ ∀ z : Int, z = i ^ j.toNat → Q (.int z) H
theorem op_powL : OpR X (binaryOp .Pow) rPowL := OpR.weak op_pow fun x y H Q h => by
  obtain ⟨i, j, rfl, rfl, h0, h1, h2, q⟩ := h
  exact ⟨i, j, rfl, rfl, ⟨h0, h1, h2⟩, q _ rfl⟩
def rMulL : R2 := fun x y H Q => ∃ i j : Int, x = .int i ∧ y = .int j ∧ CMul i j ∧ ∀ z : Int, z = i * j → Q (.int z) H
theorem op_mulL : OpR X (binaryOp .Mult) rMulL := OpR.weak op_mul fun x y H Q h => by
  obtain ⟨i, j, rfl, rfl, h2, q⟩ := h
  exact ⟨i, j, rfl, rfl, h2, q _ rfl⟩
def rAddL : R2 := fun x y H Q => ∃ i j : Int, x = .int i ∧ y = .int j ∧ ∀ z : Int, z = i + j → Q (.int z) H
theorem op_addL : OpR X (binaryOp .Add) rAddL := OpR.weak op_add fun x y H Q h => by
  obtain ⟨i, j, rfl, rfl, q⟩ := h
  exact ⟨i, j, rfl, rfl, q _ rfl⟩
def rSubL : R2 := fun x y H Q => ∃ i j : Int, x = .int i ∧ y = .int j ∧ ∀ z : Int, z = i - j → Q (.int z) H
theorem op_subL : OpR X (binaryOp .Sub) rSubL := OpR.weak op_sub fun x y H Q h => by
  obtain ⟨i, j, rfl, rfl, q⟩ := h
  exact ⟨i, j, rfl, rfl, q _ rfl⟩
def rDivL : R2 := fun x y H Q => ∃ i j : Int, x = .int i ∧ y = .int j ∧ CDivW i j ∧ ∀ z : Int, z = i / j → Q (.int z) H
theorem op_divL : OpR X (binaryOp .FloorDiv) rDivL := OpR.weak op_fdivW fun x y H Q h => by
  obtain ⟨i, j, rfl, rfl, h2, q⟩ := h
  exact ⟨i, j, rfl, rfl, h2, q _ rfl⟩
def rSetLL : V → V → V → Hp → (Hp → Prop) → Prop := fun o i v H Q => ∃ p xs k j, o = .ref p ∧ i = .int k ∧ H p = some (.lst xs) ∧ ixN xs.length k = some j ∧ ∀ H', H' = upd H p (.lst (xs.set j v)) → Q H'
theorem set_listL : PSet X rSetLL := fun pn s σ H o i v ov iv u Q I a b c h => set_list pn s σ H o i v ov iv u Q I a b c (by
  obtain ⟨p, xs, k, j, e1, e2, e3, e4, q⟩ := h
  exact ⟨p, xs, k, j, e1, e2, e3, e4, q _ rfl⟩)
def tTupL (t : TA) : TE := fun σ H Q => t σ H fun xs H1 => xs.length ≤ sizeLine ∧ ∀ p H2, H1 p = none → H2 = upd H1 p (.tup xs) → Q (.ref p) H2
def tLstL (t : TA) : TE := fun σ H Q => t σ H fun xs H1 => xs.length ≤ sizeLine ∧ ∀ p H2, H1 p = none → H2 = upd H1 p (.lst xs) → Q (.ref p) H2
/-- consequence -/
theorem PA.weak {es : List Expr} {t t' : TA} (h : PA X es t) (m : ∀ σ H Q, t' σ H Q → ∃ Q', t σ H Q' ∧ ∀ v H', Q' v H' → Q v H') : PA X es t' := ⟨fun po pn s σ H Q I q => by
  obtain ⟨Q', a, b⟩ := m _ _ _ q
  exact wpAny_mono (h.run po pn s σ H Q' I a) (fun us s1 ⟨vs, H1, I1, r1, q1⟩ => ⟨vs, H1, I1, r1, b _ _ q1⟩) fun _ _ z => z⟩
theorem pe_tupL {es : List Expr} {t : TA} {x1} {pos : Pos} (h : PA X es t) : PE X (.Tuple es x1 pos) (tTupL t) :=
  ⟨fun pn s σ H Q I q => (pe_tup (x1 := x1) (pos := pos) (PA.weak (t' := fun σ H Q => ∃ Q', t σ H Q' ∧ ∀ v H', Q' v H' → Q v H') h fun _ _ _ z => z)).run pn s σ H Q I ⟨_, q, fun xs H1 z => ⟨z.1, fun p hp => z.2 p _ hp rfl⟩⟩⟩
theorem pe_lstL {es : List Expr} {t : TA} {pos : Pos} (h : PA X es t) : PE X (.List es pos) (tLstL t) :=
  ⟨fun pn s σ H Q I q => (pe_lst (pos := pos) (PA.weak (t' := fun σ H Q => ∃ Q', t σ H Q' ∧ ∀ v H', Q' v H' → Q v H') h fun _ _ _ z => z)).run pn s σ H Q I ⟨_, q, fun xs H1 z => ⟨z.1, fun p hp => z.2 p _ hp rfl⟩⟩⟩
end

theorem sz {n : Nat} (h : n ≤ 100000) : n ≤ sizeLine := Nat.le_trans h (by decide)
theorem szl {n : Nat} (h : n < 100000) : n < sizeLine := Nat.lt_of_lt_of_le h (by decide)
theorem atI_in {α : Type} {xs : List α} {i : Int} (h0 : 0 ≤ i) (h : i < xs.length) : ∃ v, atI xs i = some v ∧ v ∈ xs ∧ xs[i.toNat]? = some v := by
  have h2 : i.toNat < xs.length := by omega
  have e : xs[i.toNat]? = some xs[i.toNat] := List.getElem?_eq_getElem h2
  refine ⟨xs[i.toNat], ?_, List.getElem_mem h2, e⟩
  have := atI_nat e
  rwa [Int.toNat_of_nonneg h0] at this
theorem ixN_in {n : Nat} {i : Int} (h0 : 0 ≤ i) (h : i < n) : ixN n i = some i.toNat := by
  unfold ixN
  rw [if_pos h0, if_pos h]

/-! ### rules whose written part is named (for comprehensions) -/
section
variable {X : Cx} {K : PySem.W.Frag}
theorem call_tupK (e : X.K = K := by rfl) : CallR X (.type "tuple") (fun xs H Q => ∃ p ys, xs = [.ref p] ∧ ((SqL K H p ys ∧ ∀ l, H l = none → Q (.ref l) (upd H l (.tup ys))) ∨ (SqT K H p ys ∧ Q (.ref p) H))) := by
  subst e
  exact call_tuple_of
theorem call_lenK (e : X.K = K := by rfl) : CallR X (.builtin "len") (fun xs H Q => ∃ x n, xs = [x] ∧ LenV K x H n ∧ Q (.int n) H) := by
  subst e
  exact call_len
theorem ix_tupK (e : X.K = K := by rfl) : IxR X (rIxT K) := by
  subst e
  exact ix_tup
theorem ix_listK (e : X.K = K := by rfl) : IxR X (rIxL K) := by
  subst e
  exact ix_list
end
end Rt
namespace Rt
open PySem PySem.Spec PyProof.Rows L2
/-! ### the drawn list: cells, the turn, the rests -/
structure Gd where
  d : Addr
  c : Addr
  r : Addr
  n : Nat
structure Dr (g : Gd) (t : Int) (H : Hp) : Prop where
  hd : ∃ a : Int, H g.d = some (.lst [.ref g.r, .ref g.c, .int a, .int t]) ∧ 0 ≤ a ∧ a < 2147483647
  hc : ∃ cs : List Int, H g.c = some (.lst (cs.map V.int)) ∧ cs.length ≤ 63
  hr : ∃ rs : List Int, H g.r = some (.lst (rs.map V.int)) ∧ rs.length ≤ 63
  dc : g.d ≠ g.c
  dr : g.d ≠ g.r
  cr : g.c ≠ g.r
  t0 : 0 ≤ t
/-- so many draws may still come -/
def Fu (g : Gd) (B : Nat) (H : Hp) : Prop := ∃ t : Int, Dr g t H ∧ t + B ≤ 1000000
/-- all but the drawn list's own things is as it was -/
def Kp (g : Gd) (H H' : Hp) : Prop := ∀ p o, p ≠ g.d → p ≠ g.r → H p = some o → H' p = some o
/-- tuples are as they were -/
def Tk (H H' : Hp) : Prop := ∀ p xs, H p = some (.tup xs) → H' p = some (.tup xs)
structure Gd.Off (g : Gd) (p : Addr) : Prop where
  d : p ≠ g.d
  c : p ≠ g.c
  r : p ≠ g.r
theorem Kp.refl (g : Gd) (H : Hp) : Kp g H H := fun _ _ _ _ h => h
theorem Kp.trans {g : Gd} {H H1 H2 : Hp} (a : Kp g H H1) (b : Kp g H1 H2) : Kp g H H2 := fun p o h1 h2 h => b p o h1 h2 (a p o h1 h2 h)
theorem Kp.new {g : Gd} {H : Hp} {p : Addr} {o : HO} (h : H p = none) : Kp g H (upd H p o) := fun q u _ _ e => by
  rw [upd_ne (ne_of_none e h)]
  exact e
/-- what H does not know may change -/
theorem Kp.mut {g : Gd} {H H' : Hp} {p : Addr} {o : HO} (e : Kp g H H') (h : H p = none) : Kp g H (upd H' p o) := fun a u h1 h2 ha => by
  rw [upd_ne (ne_of_none ha h)]
  exact e a u h1 h2 ha
theorem Kp.off {g : Gd} {H H' : Hp} {p : Addr} {o : HO} (a : Kp g H H') (f : g.Off p) (h : H p = some o) : H' p = some o := a p o f.d f.r h
theorem Tk.refl (H : Hp) : Tk H H := fun _ _ h => h
theorem Tk.trans {H H1 H2 : Hp} (a : Tk H H1) (b : Tk H1 H2) : Tk H H2 := fun p xs h => b p xs (a p xs h)
theorem Tk.new {H : Hp} {p : Addr} {o : HO} (h : H p = none) : Tk H (upd H p o) := fun q u e => by
  rw [upd_ne (ne_of_none e h)]
  exact e
theorem Tk.lst {H : Hp} {p : Addr} {xs ys : List V} (h : H p = some (.lst xs)) : Tk H (upd H p (.lst ys)) := fun q u e => by
  rw [upd_ne (fun z => by rw [z, h] at e; cases e)]
  exact e
theorem Fu.mono {g : Gd} {B B' : Nat} {H : Hp} (h : Fu g B H) (e : B' ≤ B) : Fu g B' H := by
  obtain ⟨t, a, b⟩ := h
  exact ⟨t, a, by omega⟩
theorem Fu.tk {g : Gd} {B : Nat} {H H' : Hp} (h : Fu g B H) (k : Kp g H H') : Tk H H' := fun p xs e => by
  obtain ⟨t, a, b⟩ := h
  obtain ⟨sd, hd, _⟩ := a.hd
  obtain ⟨rs, hr, _⟩ := a.hr
  exact k p _ (fun z => by rw [z, hd] at e; cases e) (fun z => by rw [z, hr] at e; cases e) e
theorem Fu.off {g : Gd} {B : Nat} {H : Hp} {p : Addr} (h : Fu g B H) (e : H p = none) : g.Off p := by
  obtain ⟨t, a, b⟩ := h
  obtain ⟨sd, hd, _⟩ := a.hd
  obtain ⟨rs, hr, _⟩ := a.hr
  obtain ⟨cs, hc, _⟩ := a.hc
  exact ⟨fun z => (by rw [z, hd] at e; cases e), fun z => (by rw [z, hc] at e; cases e), fun z => (by rw [z, hr] at e; cases e)⟩
theorem Fu.upd {g : Gd} {B : Nat} {H : Hp} {p : Addr} {o : HO} (h : Fu g B H) (f : g.Off p) : Fu g B (L2.upd H p o) := by
  obtain ⟨t, a, b⟩ := h
  obtain ⟨sd, hd, ed⟩ := a.hd
  obtain ⟨cs, hc, ec⟩ := a.hc
  obtain ⟨rs, hr, er⟩ := a.hr
  refine ⟨t, ⟨⟨sd, ?_, ed⟩, ⟨cs, ?_, ec⟩, ⟨rs, ?_, er⟩, a.dc, a.dr, a.cr, a.t0⟩, b⟩
  · rw [upd_ne f.d.symm]; exact hd
  · rw [upd_ne f.c.symm]; exact hc
  · rw [upd_ne f.r.symm]; exact hr
theorem Fu.new {g : Gd} {B : Nat} {H : Hp} {p : Addr} {o : HO} (h : Fu g B H) (e : H p = none) : Fu g B (L2.upd H p o) := h.upd (h.off e)
/-! ### comprehensions that draw -/
theorem lcR {g : Gd} {lo : Int} {n : Nat} {gt : TG} {tt : TT} {te : TE} {vs : List Nat} {σ : L2.St} {H1 : Hp} {D : Addr} {Qd : Hp → Prop} {B : Nat} (c : Nat) (Pt : Hp → V → Prop) (Pl : Nat → List V → Prop) (hD : H1 D = none) (hF : Fu g B H1) (hn : n ≤ 1000) (hB : n * c ≤ B)
    (mono : ∀ H H' x, Tk H H' → Pt H x → Pt H' x) (p0 : Pl 0 [])
    (hs : ∀ i H (B' : Nat), i < n → Fu g B' H → c ≤ B' → Kp g H1 H → ∀ (Qk : VK) (Qs : Hp → Prop),
      (∀ y H', Fu g (B' - c) H' → Kp g H H' → Pt H' y → (∀ acc, Pl i acc → Pl (i + 1) (acc ++ [y])) → Qk y H') → (∀ H', Fu g (B' - c) H' → Kp g H H' → (∀ acc, Pl i acc → Pl (i + 1) acc) → Qs H') →
      gt (.int (lo + i)) (wipe σ vs) H fun σ2 H2 => wipe σ2 vs = wipe σ vs ∧ tt σ2 H2 fun b H3 => if b = true then te σ2 H3 Qk else Qs H3)
    (hd : ∀ H acc, Fu g (B - n * c) H → Kp g H1 H → H D = some (.lst acc) → acc.length ≤ n → Pl n acc → (∀ x ∈ acc, Pt H x) → Qd H) :
    ∃ W : Nat → Nat → Hp → Prop, (∃ m, W 0 m (upd H1 D (.lst []))) ∧ ∀ i m H, W i m H →
      ((Itr lo n).stop i H ∧ Qd H) ∨ ((Itr lo n).go i H ∧ ∃ Nx : Hp → Prop, (∀ H', Nx H' → ∃ m', m' < m ∧ W (i + 1) m' H') ∧ ∀ x H', (Itr lo n).yld i H x H' → gt x (wipe σ vs) H' fun σ2 H2 => wipe σ2 vs = wipe σ vs ∧ tt σ2 H2 fun b H3 =>
        if b = true then te σ2 H3 fun y H4 => ∃ acc, H4 D = some (.lst acc) ∧ acc.length < sizeLine ∧ Nx (upd H4 D (.lst (acc ++ [y]))) else Nx H3) := by
  have oD := hF.off hD
  refine lc_range (Pv := fun i H => i ≤ n ∧ ∃ B', B' + i * c = B ∧ Fu g B' H ∧ Kp g H1 H ∧ ∃ acc, H D = some (.lst acc) ∧ acc.length ≤ i ∧ Pl i acc ∧ ∀ x ∈ acc, Pt H x) ⟨Nat.zero_le _, B, by omega, hF.upd oD, Kp.new hD, [], upd_same, Nat.le_refl _, p0, fun x h => nomatch h⟩ (fun i H hi p => ?_) (fun H p => ?_)
  · obtain ⟨_, B', eB, f, k, acc, eD, el, pl, al⟩ := p
    have h1 : (i + 1) * c ≤ n * c := Nat.mul_le_mul_right c hi
    have h2 : (i + 1) * c = i * c + c := Nat.succ_mul i c
    refine hs i H B' hi f (by omega) k _ _ (fun y H' f' k' py ply => ?_) (fun H' f' k' ply => ?_)
    · have eD' := k'.off oD eD
      refine ⟨acc, eD', szl (by omega), hi, B' - c, by omega, f'.upd oD, (k.trans k').mut hD, acc ++ [y], upd_same, by rw [List.length_append]; simp; omega, ply acc pl, fun x hx => ?_⟩
      rcases List.mem_append.mp hx with hx | hx
      · exact mono _ _ _ (Tk.lst eD') (mono _ _ _ (f.tk k') (al x hx))
      · have e : x = y := by simpa using hx
        subst e
        exact mono _ _ _ (Tk.lst eD') py
    · exact ⟨hi, B' - c, by omega, f', k.trans k', acc, k'.off oD eD, by omega, ply acc pl, fun x hx => mono _ _ _ (f.tk k') (al x hx)⟩
  · obtain ⟨_, B', eB, f, k, acc, eD, el, pl, al⟩ := p
    exact hd H acc (f.mono (by omega)) k eD el pl al
theorem lcT {K : PySem.W.Frag} {a : Addr} {xs : List V} {g : Gd} {gt : TG} {tt : TT} {te : TE} {vs : List Nat} {σ : L2.St} {H1 : Hp} {D : Addr} {Qd : Hp → Prop} {B : Nat} (c : Nat) (Pt : Hp → V → Prop) (Pl : Nat → List V → Prop) (hD : H1 D = none) (hF : Fu g B H1) (hn : xs.length ≤ 1000) (hB : xs.length * c ≤ B)
    (hx : ∀ H, Kp g H1 H → SqT K H a xs) (mono : ∀ H H' x, Tk H H' → Pt H x → Pt H' x) (p0 : Pl 0 [])
    (hs : ∀ i x H (B' : Nat), xs[i]? = some x → Fu g B' H → c ≤ B' → Kp g H1 H → ∀ (Qk : VK) (Qs : Hp → Prop),
      (∀ y H', Fu g (B' - c) H' → Kp g H H' → Pt H' y → (∀ acc, Pl i acc → Pl (i + 1) (acc ++ [y])) → Qk y H') → (∀ H', Fu g (B' - c) H' → Kp g H H' → (∀ acc, Pl i acc → Pl (i + 1) acc) → Qs H') →
      gt x (wipe σ vs) H fun σ2 H2 => wipe σ2 vs = wipe σ vs ∧ tt σ2 H2 fun b H3 => if b = true then te σ2 H3 Qk else Qs H3)
    (hd : ∀ H acc, Fu g (B - xs.length * c) H → Kp g H1 H → H D = some (.lst acc) → acc.length ≤ xs.length → Pl xs.length acc → (∀ x ∈ acc, Pt H x) → Qd H) :
    ∃ W : Nat → Nat → Hp → Prop, (∃ m, W 0 m (upd H1 D (.lst []))) ∧ ∀ i m H, W i m H →
      ((Itt K a).stop i H ∧ Qd H) ∨ ((Itt K a).go i H ∧ ∃ Nx : Hp → Prop, (∀ H', Nx H' → ∃ m', m' < m ∧ W (i + 1) m' H') ∧ ∀ x H', (Itt K a).yld i H x H' → gt x (wipe σ vs) H' fun σ2 H2 => wipe σ2 vs = wipe σ vs ∧ tt σ2 H2 fun b H3 =>
        if b = true then te σ2 H3 fun y H4 => ∃ acc, H4 D = some (.lst acc) ∧ acc.length < sizeLine ∧ Nx (upd H4 D (.lst (acc ++ [y]))) else Nx H3) := by
  have oD := hF.off hD
  refine lc_tup (xs := xs) (Pv := fun i H => i ≤ xs.length ∧ ∃ B', B' + i * c = B ∧ Fu g B' H ∧ Kp g H1 H ∧ ∃ acc, H D = some (.lst acc) ∧ acc.length ≤ i ∧ Pl i acc ∧ ∀ x ∈ acc, Pt H x) ⟨Nat.zero_le _, B, by omega, hF.upd oD, Kp.new hD, [], upd_same, Nat.le_refl _, p0, fun x h => nomatch h⟩ (fun i H _ p => ?_) (fun i x H hi p => ?_) (fun H p => ?_)
  · obtain ⟨_, B', eB, f, k, acc, eD, el, pl, al⟩ := p
    exact hx H k
  · obtain ⟨_, B', eB, f, k, acc, eD, el, pl, al⟩ := p
    have hi' : i < xs.length := (List.getElem?_eq_some_iff.mp hi).1
    have h1 : (i + 1) * c ≤ xs.length * c := Nat.mul_le_mul_right c hi'
    have h2 : (i + 1) * c = i * c + c := Nat.succ_mul i c
    refine hs i x H B' hi f (by omega) k _ _ (fun y H' f' k' py ply => ?_) (fun H' f' k' ply => ?_)
    · have eD' := k'.off oD eD
      refine ⟨acc, eD', szl (by omega), hi', B' - c, by omega, f'.upd oD, (k.trans k').mut hD, acc ++ [y], upd_same, by rw [List.length_append]; simp; omega, ply acc pl, fun x hx => ?_⟩
      rcases List.mem_append.mp hx with hx | hx
      · exact mono _ _ _ (Tk.lst eD') (mono _ _ _ (f.tk k') (al x hx))
      · have e : x = y := by simpa using hx
        subst e
        exact mono _ _ _ (Tk.lst eD') py
    · exact ⟨hi', B' - c, by omega, f', k.trans k', acc, k'.off oD eD, by omega, ply acc pl, fun x hx => mono _ _ _ (f.tk k') (al x hx)⟩
  · obtain ⟨_, B', eB, f, k, acc, eD, el, pl, al⟩ := p
    exact hd H acc (f.mono (by omega)) k eD el pl al
end Rt
namespace Rt
open PySem PySem.Spec PyProof.Rows L2
section
variable {X : Cx}
/-! ### 'm' * n -/
theorem fold_app : ∀ (l : List (Array Nat)) (b : Array Nat), (l.foldl (· ++ ·) b).toList = b.toList ++ (l.map Array.toList).flatten
  | [], b => by simp
  | x :: r, b => by
    show (r.foldl (· ++ ·) (b ++ x)).toList = _
    rw [fold_app r (b ++ x)]
    simp
def rRepS : R2 := fun x y H Q => ∃ (z : Str) (n : Int), x = .str z ∧ y = .int n ∧ 1 ≤ n ∧ n ≤ 100 ∧ 0 < z.length ∧ z.length ≤ 100 ∧ ∀ r : Str, r.cps.toList = (List.replicate n.toNat z.cps.toList).flatten → r.length = n.toNat * z.length → Q (.str r) H
theorem op_repS : OpR X (binaryOp .Mult) rRepS := by
  intro pn s σ H x y v u Q I rx ry h
  obtain ⟨z, n, rfl, rfl, h1, h2, h3, h4, q⟩ := h
  obtain ⟨t, rfl⟩ := rx
  obtain ⟨t', rfl⟩ := ry
  have hl : z.length * n.toNat ≤ 10000 := Nat.le_trans (Nat.mul_le_mul h4 (show n.toNat ≤ 100 by omega)) (by decide)
  have el : ∀ r : Str, r.cps.toList = (List.replicate n.toNat z.cps.toList).flatten → r.length = n.toNat * z.length := fun r e => by
    show r.cps.size = _
    rw [← Array.length_toList, e, List.length_flatten, List.map_replicate, List.sum_replicate_nat]
    show n.toNat * z.cps.toList.length = n.toNat * z.cps.size
    rw [Array.length_toList]
  refine PySem.P.mul_str ?_ (fun _ _ => ?_) (fun _ _ => ?_) ?_
  · rw [decide_eq_false (by omega), decide_eq_false (by omega)]; rfl
  · have : (100 : Int) ≤ (2 ^ 63 - 1) / n := (Int.le_ediv_iff_mul_le (by omega)).mpr (by omega)
    omega
  · show decide (z.length * n.toNat > sizeLine) = false
    exact decide_eq_false (by have := sz (n := z.length * n.toNat) (by omega); omega)
  · rw [if_neg (by omega)]
    by_cases e : n = 1
    · subst e
      rw [if_pos (by rfl)]
      have e1 : z.cps.toList = (List.replicate (1 : Int).toNat z.cps.toList).flatten := by simp
      exact ⟨.str z, H, I, ⟨_, rfl⟩, q z e1 (el z e1)⟩
    · rw [if_neg (by simp [e]; omega)]
      have e1 : (⟨(List.replicate n.toNat z.cps).foldl (· ++ ·) #[]⟩ : Str).cps.toList = (List.replicate n.toNat z.cps.toList).flatten := by
        show ((List.replicate n.toNat z.cps).foldl (· ++ ·) #[]).toList = _
        rw [fold_app, List.map_replicate]
        rfl
      refine ⟨?_, ⟨.str _, H, I.tok _, ⟨_, rfl⟩, q _ e1 (el _ e1)⟩⟩
      rw [el _ e1, Nat.mul_comm]
      exact sz (by omega)
/-! ### min, max of a tuple of ints -/
theorem holds_ints {h : Heap} : ∀ {ns : List Int} {us : List Value}, Vals (ns.map V.int) us → PySem.W.HoldAll h us ns
  | [], _, .nil => .nil
  | n :: r, _, .cons a t => by
    obtain ⟨tk, rfl⟩ := a
    exact .cons ⟨_, .int n tk⟩ (holds_ints t)
theorem minOf_le : ∀ (xs : List Int) (x : Int), PySem.W.minOf x xs ∈ x :: xs ∧ ∀ y ∈ x :: xs, PySem.W.minOf x xs ≤ y
  | [], x => ⟨List.mem_cons_self, fun y h => (by
    have e : y = x := by simpa using h
    subst e
    exact Int.le_refl _)⟩
  | z :: r, x => by
    have ih := minOf_le r (if z < x then z else x)
    have e : PySem.W.minOf x (z :: r) = PySem.W.minOf (if z < x then z else x) r := by
      show r.foldl _ (if decide (z < x) = true then z else x) = r.foldl _ (if z < x then z else x)
      simp only [decide_eq_true_eq]
    rw [e]
    have hm := ih.2 _ List.mem_cons_self
    have hx : (if z < x then z else x) ≤ x := by split <;> omega
    have hz : (if z < x then z else x) ≤ z := by split <;> omega
    refine ⟨?_, fun y h => ?_⟩
    · rcases List.mem_cons.mp ih.1 with h | h
      · rw [h]; split <;> simp
      · exact List.mem_cons_of_mem _ (List.mem_cons_of_mem _ h)
    · rcases List.mem_cons.mp h with h | h
      · rw [h]; exact Int.le_trans hm hx
      · rcases List.mem_cons.mp h with h | h
        · rw [h]; exact Int.le_trans hm hz
        · exact ih.2 y (List.mem_cons_of_mem _ h)
theorem maxOf_ge : ∀ (xs : List Int) (x : Int), PySem.W.maxOf x xs ∈ x :: xs ∧ ∀ y ∈ x :: xs, y ≤ PySem.W.maxOf x xs
  | [], x => ⟨List.mem_cons_self, fun y h => (by
    have e : y = x := by simpa using h
    subst e
    exact Int.le_refl _)⟩
  | z :: r, x => by
    have ih := maxOf_ge r (if x < z then z else x)
    have e : PySem.W.maxOf x (z :: r) = PySem.W.maxOf (if x < z then z else x) r := by
      show r.foldl _ (if decide (x < z) = true then z else x) = r.foldl _ (if x < z then z else x)
      simp only [decide_eq_true_eq]
    rw [e]
    have hm := ih.2 _ List.mem_cons_self
    have hx : x ≤ (if x < z then z else x) := by split <;> omega
    have hz : z ≤ (if x < z then z else x) := by split <;> omega
    refine ⟨?_, fun y h => ?_⟩
    · rcases List.mem_cons.mp ih.1 with h | h
      · rw [h]; split <;> simp
      · exact List.mem_cons_of_mem _ (List.mem_cons_of_mem _ h)
    · rcases List.mem_cons.mp h with h | h
      · rw [h]; exact Int.le_trans hx hm
      · rcases List.mem_cons.mp h with h | h
        · rw [h]; exact Int.le_trans hz hm
        · exact ih.2 y (List.mem_cons_of_mem _ h)
def rMinT (K : PySem.W.Frag) : List V → Hp → VK → Prop := fun vs H Q => ∃ (a : Addr) (ns : List Int), vs = [V.ref a] ∧ SqT K H a (ns.map V.int) ∧ 0 < ns.length ∧ ∀ m, m ∈ ns → (∀ y, y ∈ ns → m ≤ y) → Q (.int m) H
def rMaxT (K : PySem.W.Frag) : List V → Hp → VK → Prop := fun vs H Q => ∃ (a : Addr) (ns : List Int), vs = [V.ref a] ∧ SqT K H a (ns.map V.int) ∧ 0 < ns.length ∧ ∀ m, m ∈ ns → (∀ y, y ∈ ns → y ≤ m) → Q (.int m) H
theorem cr_minT (hc : X.calm = true) (hu : X.A.units + 64 < cLine) : CallR X (.builtin "min") (rMinT X.K) := by
  intro pn s σ H vs us Q I r h
  obtain ⟨a, ns, rfl, hs, hne, q⟩ := h
  obtain ⟨its, rv, hl, _⟩ := I.tuple hs
  rw [Vals.ref1 r]
  cases ns with
  | nil => exact absurd hne (by decide)
  | cons x xs =>
    have hH : PySem.W.HoldAll s.heap its.toArray.toList (x :: xs) := holds_ints (ns := x :: xs) rv
    refine PySem.W.min_tuple_datum (I.ok.hd hc) hl hH (by show X.A.units + 1 + 0 < cLine; omega) fun i v h' tk hv ho hk => ?_
    obtain ⟨as, ho⟩ := ho
    cases ho with
    | int _ t => exact ⟨.int _, H, I.kept hk, ⟨_, rfl⟩, q _ (minOf_le xs x).1 (minOf_le xs x).2⟩
theorem cr_maxT (hc : X.calm = true) (hu : X.A.units + 64 < cLine) : CallR X (.builtin "max") (rMaxT X.K) := by
  intro pn s σ H vs us Q I r h
  obtain ⟨a, ns, rfl, hs, hne, q⟩ := h
  obtain ⟨its, rv, hl, _⟩ := I.tuple hs
  rw [Vals.ref1 r]
  cases ns with
  | nil => exact absurd hne (by decide)
  | cons x xs =>
    have hH : PySem.W.HoldAll s.heap its.toArray.toList (x :: xs) := holds_ints (ns := x :: xs) rv
    refine PySem.W.max_tuple_datum (I.ok.hd hc) hl hH (by show X.A.units + 1 + 0 < cLine; omega) fun i v h' tk hv ho hk => ?_
    obtain ⟨as, ho⟩ := ho
    cases ho with
    | int _ t => exact ⟨.int _, H, I.kept hk, ⟨_, rfl⟩, q _ (maxOf_ge xs x).1 (maxOf_ge xs x).2⟩
end
end Rt
namespace Rt
open PySem PySem.Spec PyProof.Rows L2
section
variable {prog : Program} {w : World} {A : Around} {E : Value → Shared → Prop} {s : Shared}
theorem sa_rev {sl : Addr} {vl vu vk : Value} {n : Nat} {Q : Int × Int × Nat → Shared → Prop} (hs : s.heap.IsSliceOf sl vl vu vk) (pl : IsPart vl none) (pu : IsPart vu none) (pk : IsPart vk (some (-1)))
    (h : Q ((n : Int) - 1, -1, n) s) : wpAny (model prog w) A (Builtin.Slice.sliceApplied (.ref sl) (pure (n : Int))) Q E s := by
  obtain ⟨os, hos, hcs, hds⟩ := id hs
  unfold Builtin.Slice.sliceApplied Builtin.Slice.sliceFields
  refine wpAny_bind (wpAny_bind (wpAny_field hos hds (x := vl) rfl (wpAny_bind (wpAny_field hos hds (x := vu) rfl (wpAny_bind (wpAny_field hos hds (x := vk) rfl (wpAny_pure ?_)))))))
  refine wpAny_bind (HT.slicePart_ pk ?_)
  show wpAny _ _ (if ((-1 : Int) == 0) = true then _ else _) _ _ s
  rw [if_neg (by decide)]
  refine wpAny_bind (HT.slicePart_ pl (wpAny_bind (HT.slicePart_ pu (wpAny_bind (wpAny_pure ?_)))))
  have e1 : Builtin.Slice.sliceAdjust none none (-1) (n : Int) = ((n : Int) - 1, -1) := by
    unfold Builtin.Slice.sliceAdjust
    simp
  have e2 : Builtin.Slice.slicePlaces ((n : Int) - 1) (-1) (-1) = n := by
    unfold Builtin.Slice.slicePlaces
    rw [if_neg (by decide)]
    by_cases hn : (n : Int) - 1 > -1
    · rw [if_pos hn, show (-(-1) : Int) = 1 by decide, Int.ediv_one]
      omega
    · rw [if_neg hn]
      omega
  show wpAny _ _ (match Builtin.Slice.sliceAdjust none none (-1) (n : Int) with | (lo, hi) => pure (lo, (-1 : Int), Builtin.Slice.slicePlaces lo hi (-1))) _ _ s
  rw [e1]
  show wpAny _ _ (pure ((n : Int) - 1, (-1 : Int), Builtin.Slice.slicePlaces ((n : Int) - 1) (-1) (-1))) _ _ s
  rw [e2]
  exact wpAny_pure h
theorem fm_congr {α β : Type} {f g : α → Option β} : ∀ {l : List α}, (∀ x ∈ l, f x = g x) → l.filterMap f = l.filterMap g
  | [], _ => rfl
  | a :: r, h => by
    rw [List.filterMap_cons, List.filterMap_cons, h a List.mem_cons_self, fm_congr fun x hx => h x (List.mem_cons_of_mem _ hx)]
theorem pick_rev (xs : Array Value) : ((List.range xs.size).filterMap fun (m : Nat) => xs[(((xs.size : Int) - 1) + (m : Int) * (-1)).toNat]?).toArray = xs.toList.reverse.toArray := by
  congr 1
  have e : (List.range xs.size).filterMap (fun (m : Nat) => xs[(((xs.size : Int) - 1) + (m : Int) * (-1)).toNat]?) = (List.range xs.size).filterMap (fun (m : Nat) => xs.toList.reverse[m]?) := by
    refine fm_congr fun m hm => ?_
    have hm := List.mem_range.mp hm
    have e2 : (((xs.size : Int) - 1) + (m : Int) * (-1)).toNat = xs.size - 1 - m := by omega
    rw [e2, List.getElem?_reverse (by rw [Array.length_toList]; exact hm), Array.length_toList, Array.getElem?_toList]
  rw [e]
  have g : ∀ l : List Value, (List.range l.length).filterMap (fun m => l[m]?) = l := by
    intro l
    induction l with
    | nil => rfl
    | cons a r ih =>
      rw [List.length_cons, List.range_succ_eq_map, List.filterMap_cons]
      simp only [List.getElem?_cons_zero, List.filterMap_map]
      congr 1
  have := g xs.toList.reverse
  rwa [List.length_reverse, Array.length_toList] at this
theorem item_rev {t sl : Addr} {items : Array Value} {vl vu vk : Value} {Q : Value → Shared → Prop} (ht : IsTup s.heap t items) (hs : s.heap.IsSliceOf sl vl vu vk) (pl : IsPart vl none) (pu : IsPart vu none) (pk : IsPart vk (some (-1)))
    (h : Q (.ref s.heap.objs.size) { s with heap := s.heap.push { cls := .type "tuple", data := .seq items.toList.reverse.toArray } })
    (hsz : items.size ≤ sizeLine) : wpAny (model prog w) A (getItem (.ref t) (.ref sl)) Q E s := by
  have htk : sizeOk (.seq items.toList.reverse.toArray) := by
    show items.toList.reverse.toArray.size ≤ sizeLine
    rw [List.size_toArray, List.length_reverse, Array.length_toList]
    exact hsz
  obtain ⟨os, hos, hcs, hds⟩ := id hs
  have hT2 : s.TypeIs (.ref sl) "slice" := ⟨os, hos, hcs⟩
  unfold getItem
  try with_reducible refine wpAny_holding ?_
  first | refine wpAny_bind (wpAny_pure ?_) | skip
  refine wpAny_bind (wpAny_sequenceKey ht.typeIs (by decide) ?_)
  refine wpAny_bind (wpAny_callSpecial?_slot (name := Str.ofString "__getitem__") ht.typeIs PyProof.Rows.slot_tuple_getitem (wpAny_call_entry PyProof.Rows.slot_tuple_getitem ht.typeIs entry_tuple_getitem ?_ (args_tuple_getitem _ _)))
  show wpAny _ _ (Builtin.Tuple.tupleItemsOf (.ref t) >>= _) _ _ s
  refine wpAny_bind (tupleItemsOf_ ht (wpAny_bind (wpAny_typeOf hT2 ?_)))
  rw [if_pos (by decide)]
  refine wpAny_bind (sa_rev (n := items.size) hs pl pu pk ?_)
  have hno : ¬ ((((items.size : Int) - 1) == 0 && (-1 : Int) == 1 && items.size == items.size) = true) := by
    intro z
    rw [Bool.and_eq_true, Bool.and_eq_true] at z
    exact absurd z.1.2 (by decide)
  show wpAny _ _ (if (((items.size : Int) - 1) == 0 && (-1 : Int) == 1 && items.size == items.size) = true then _ else _) _ _ s
  rw [if_neg hno, pick_rev]
  first
    | exact wpAny_bind (m := Builtin.Tuple.tupleExact _) (wpAny_newObj_type (wpAny_pure ⟨_, rfl, wpAny_pure h⟩) htk)
    | exact wpAny_bind (m := Builtin.Tuple.tupleExact _) (wpAny_newObj_type (wpAny_bind (wpAny_pure (wpAny_pure ⟨_, rfl, wpAny_pure h⟩))) htk)
    | exact wpAny_bind (wpAny_bind (m := Builtin.Tuple.tupleExact _) (wpAny_newObj_type (wpAny_pure (wpAny_pure ⟨_, rfl, wpAny_pure h⟩)) htk))
    | exact wpAny_bind (wpAny_bind (m := Builtin.Tuple.tupleExact _) (wpAny_newObj_type (wpAny_pure ⟨_, rfl, wpAny_pure h⟩) htk))
end
section
variable {X : Cx}
def tRevT (K : PySem.W.Frag) (te : TE) : TE := fun σ H Q => te σ H fun x H1 => ∃ a xs, x = .ref a ∧ SqT K H1 a xs ∧ ∀ p, H1 p = none → Q (.ref p) (upd H1 p (.tup xs.reverse))
theorem pe_revT {e : Expr} {te : TE} {k : Nat} {p1 p2 p3 pos : Pos} (he : PE X e te) : PE X (.Subscript e (.Slice none none (some (.UnaryOp .USub (.Constant (.int 1) k p1) p2)) p3) pos) (tRevT X.K te) := by
  refine ⟨fun pn s σ H Q I h => ?_⟩
  refine Subscript_ (thn (he.run pn s σ H _ I h) fun v s1 ⟨x, H1, I1, r1, q1⟩ => ?_)
  obtain ⟨a, xs, ex, hx, q⟩ := q1
  subst ex
  cases r1
  have hst : PO X (some (.UnaryOp .USub (.Constant (.int 1) k p1) p2)) (tPart (tUn (rU fun i => .int (-i)) (tC (.int 1)))) := po_some (pe_un un_neg pe_int)
  refine wpAny_Slice (thn (po_none.run pn s1 σ H1 (fun o H2 => o = none ∧ H2 = H1) I1 ⟨rfl, rfl⟩) fun vl s2 ⟨l, H2, I2, pl, el, e2⟩ => ?_)
  subst el e2
  refine thn (po_none.run pn s2 σ H2 (fun o H3 => o = none ∧ H3 = H2) I2 ⟨rfl, rfl⟩) fun vu s3 ⟨u, H3, I3, pu, eu, e3⟩ => ?_
  subst eu e3
  refine thn (hst.run pn s3 σ H3 (fun o H4 => o = some (-1) ∧ H4 = H3) I3 ⟨1, rfl, -1, rfl, rfl, rfl⟩) fun vs s4 ⟨o, H4, I4, ps, eo, e4⟩ => ?_
  subst eo e4
  have I5 : Inv X pn σ H4 { s4 with heap := s4.heap.push { cls := .type "slice", data := .fields #[vl, vu, vs] } } := I4.kept (t' := s4.toks) fun b ob q => Heap.get?_push_of_some _ q
  obtain ⟨its, r, ht, hz⟩ := I5.tuple hx
  have hlen := r.length
  show wpAny (model X.prog X.w) X.A (subscriptTail e (.Slice none none (some (.UnaryOp .USub (.Constant (.int 1) k p1) p2)) p3) (.ref a) (.ref s4.heap.objs.size)) (EP X pn σ Q) X.xe { s4 with heap := s4.heap.push { cls := .type "slice", data := .fields #[vl, vu, vs] } }
  refine tail_any (ops := [.ref a, .ref s4.heap.objs.size]) ht.typeIs (PyProof.Rows.slot_tuple_getitem.lookup) ?_ (by with_unfolding_all rfl)
  refine item_rev ht (Heap.IsSliceOf.new _ vl vu vs) pl pu ps ?_ (by rw [List.size_toArray]; omega)
  refine ⟨.ref _, _, I5.laid (t' := s4.toks) (o := .tup xs.reverse) (fun b ob q => Heap.get?_push_of_some _ q) (Nat.le_refl _) ?_, rfl, q _ (I5.hok.fresh (Nat.le_refl _))⟩
  exact ⟨by rw [List.length_reverse]; exact hz, _, r.reverse, IsTup.new _ _⟩
end
end Rt
namespace Rt
open PySem PySem.Spec PyProof.Rows L2
section
variable {prog : Program} {w : World} {A : Around} {E : Value → Shared → Prop} {s : Shared}
theorem collect_tup {t : Addr} {us : List Value} {Q : List Value → Shared → Prop} (ht : IsTup s.heap t us.toArray)
    (hq : Q us { s with heap := (s.heap.push (seqObj "list" #[] 0)).update s.heap.objs.size (Obj.mapSeq (· ++ us.toArray)) }) (hz : us.length ≤ sizeLine) :
    wpAny (model prog w) A (collect (.ref t)) Q E s := by
  obtain ⟨ob, hob, hcl, m, hdt⟩ := id ht
  unfold collect
  refine wpAny_bind (wpAny_runValue (codeAny_builtin entry_proto_collect' ?_))
  show wpAny _ _ (do again (.builtin "list.__iadd__" ⟨[← newList [], .ref t], []⟩)) _ _ s
  refine wpAny_bind (wpAny_newList (wpAny_pure ⟨Code.quiet_builtin _ (by decide +kernel), codeAny_builtin entry_list_iadd' ?_⟩))
  show wpAny _ _ (Builtin.List.listExtendWith (.ref s.heap.objs.size) (.ref t) (.ref s.heap.objs.size)) _ _ { s with heap := s.heap.push (seqObj "list" #[] 0) }
  unfold Builtin.List.listExtendWith
  have hob' : (s.heap.push (seqObj "list" #[] 0)).get? t = some ob := Heap.get?_push_of_some _ hob
  refine wpAny_bind (wpAny_typeOf (T := "tuple") ⟨ob, hob', hcl⟩ ?_)
  have htt : (Value.type "tuple" == Value.type "tuple") = true := by rfl
  rw [if_pos (by rw [htt]; simp)]
  refine wpAny_bind (listItems_at hob' hdt ?_)
  refine wpAny_bind (listItems_at (xs := #[]) (n := 0) (Heap.get?_push_size _ rfl) rfl ?_)
  rw [if_neg (by simp)]
  refine wpAny_bind (listUpdate_at (xs := #[]) (n := 0) (Heap.get?_push_size _ rfl) rfl ?_ (Nat.zero_le _) (by show (#[] ++ us.toArray).size ≤ sizeLine + 1; simp only [Array.size_append, List.size_toArray, List.length_nil]; omega))
  refine wpAny_pure ?_
  show wpAny (model prog w) A (do
      let ld ← load s.heap.objs.size
      match ld.data with
      | .seq xs _ => pure xs.toList
      | _ => unsupported "internal:collect") Q E { s with heap := (s.heap.push (seqObj "list" #[] 0)).update s.heap.objs.size (Obj.mapSeq (· ++ us.toArray)) }
  refine wpAny_bind (wpAny_load (get?_update_seq (Heap.get?_push_size _ rfl) _) ?_)
  show wpAny _ _ (pure ((#[] : Array Value) ++ us.toArray).toList) Q E _
  rw [show ((#[] : Array Value) ++ us.toArray).toList = us by simp]
  exact wpAny_pure hq
theorem sorted_tup {t : Addr} {us : List Value} {ns : List Int} {Q : Value → Shared → Prop} (ht : IsTup s.heap t us.toArray) (hI : IntsAre us ns) (h64 : us.length < 64)
    (hq : ∀ (out : Array Value) (ns' : List Int), IntsAre out.toList ns' → ns'.Perm ns → ns'.Pairwise (· ≤ ·) → Q (.ref (s.heap.objs.size + 1)) { s with heap := sortedAll s.heap us out }) :
    wpAny (model prog w) A (call (.builtin "sorted") [.ref t]) Q E s := by
  refine Calls.call_function_entry kind_sorted plain_sorted entry_sorted (args_sorted1 _) ?_
  unfold Builtin.«sorted»
  refine wpAny_bind (m := checkCount "sorted" 1 1 _) (wpAny_pure ?_)
  refine wpAny_bind (collect_tup ht ?_ (small64 h64))
  refine wpAny_bind (wpAny_newList ?_)
  have e1 : ((s.heap.push (seqObj "list" #[] 0)).update s.heap.objs.size (Obj.mapSeq (· ++ us.toArray))).objs.size = s.heap.objs.size + 1 := by
    rw [Heap.size_update, size_push']
  have hoL : (((s.heap.push (seqObj "list" #[] 0)).update s.heap.objs.size (Obj.mapSeq (· ++ us.toArray))).push (seqObj "list" us.toArray 0)).get? (s.heap.objs.size + 1) = some (seqObj "list" us.toArray 0) := by
    rw [← e1]; exact Heap.get?_push_size _ rfl
  show wpAny _ _ _ _ _ { s with heap := ((s.heap.push (seqObj "list" #[] 0)).update s.heap.objs.size (Obj.mapSeq (· ++ us.toArray))).push (seqObj "list" us.toArray 0) }
  rw [e1]
  refine wpAny_bind (wpAny_holding (wpAny_call_entry slot_list_sort ⟨_, hoL, rfl⟩ entry_list_sort (list_sort_tree hoL hI h64 fun out ns' a1 a2 a3 => ⟨_, rfl, ?_⟩) (args_list_sort _)))
  exact wpAny_pure ⟨_, rfl, hq out ns' a1 a2 a3⟩
end
section
variable {X : Cx}
def rSortedTp (K : PySem.W.Frag) : List V → Hp → VK → Prop := fun vs H Q => ∃ (a : Addr) (ns : List Int), vs = [V.ref a] ∧ SqT K H a (ns.map V.int) ∧ ns.length < 64 ∧
  ∀ (ns' : List Int) (p : Addr) (H' : Hp), ns'.Perm ns → ns'.Pairwise (· ≤ ·) → H p = none → H' = upd H p (.lst (ns'.map V.int)) → Q (.ref p) H'
theorem cr_sortedTp : CallR X (.builtin "sorted") (rSortedTp X.K) := by
  intro pn s σ H vs us Q I r h
  obtain ⟨a, ns, rfl, hs, h64, q⟩ := h
  obtain ⟨its, rv, hl, _⟩ := I.tuple hs
  rw [Vals.ref1 r]
  have hi := rv.ints
  refine sorted_tup hl hi (by rw [hi.length]; exact h64) fun out ns' h1 h2 h3 => ?_
  obtain ⟨ep, he'⟩ := PyProof.Rows.sortedAll_at s.heap its out
  have hln : (ns'.map V.int).length ≤ sizeLine := by rw [List.length_map, h2.length_eq]; exact small64 h64
  exact ⟨.ref _, upd H (s.heap.objs.size + 1) (.lst (ns'.map V.int)), I.laid (t' := s.toks) (fun _ _ => PyProof.Rows.sortedAll_old) (Nat.le_succ _) ⟨hln, out.toList, ep, vals_of_ints h1, he'⟩, rfl, q ns' _ _ h2 h3 (I.hok.fresh (Nat.le_succ _)) rfl⟩
end
end Rt
namespace Rt
open PySem PySem.Spec PyProof.Rows L2
/-! ### defs that are called where nothing is being shown (no guard stands around) -/
structure FnG (P : Program) (w : World) (K : PySem.W.Frag) (mg : Str → Option Value) (base : Heap) (k : Nat) (f : Addr) (fd : FuncData) (ps : List Str) (sp : Sp) : Prop where
  many : ∀ vs H Q E, sp vs H Q E → vs.length = ps.length
  goes : ∀ (A : Around) (outer : List Env) (s : Shared) (H : Hp) (args : Args) (us : List Value) (vs : List V) (Q : VK) (E : XK), Room k A → A.guards = some [] → Env0 P w K mg base A outer s H → BindsTo s fd args (ps.zip us) → Vals vs us → sp vs H Q E →
    codeAny (model P w) A (.call (.ref f) args) (CR CX0 outer P w H s Q E) s
section
variable {P : Program} {w : World} {K : PySem.W.Frag} {mg : Str → Option Value} {base : Heap}
theorem okG {x qual : Str} {st : Stmt} {f : Addr} {fd : FuncData} {N ps : List Str} {k : Nat} {sp : Sp} (F : Fun K x qual st f fd) (S : FnScope N ps (defScope st)) (many : ∀ vs H Q E, sp vs H Q E → vs.length = ps.length)
    (walk : ∀ (cdv : Value) (A : Around) (outer : List Env) (s : Shared) (H : Hp) (vs : List V) (Q : VK) (E : XK), Room k (A.deeper (envOfC qual (defScope st) s.heap.objs.size f cdv)) → (A.deeper (envOfC qual (defScope st) s.heap.objs.size f cdv)).guards = some [] → sp vs H Q E →
      ∃ t, PSs (cxOf CX0 P w K mg base N qual (defScope st) f cdv A outer s H E).nox (defBody st) t ∧ t { nx := fun _ H' => Q .non H', rt := Q } (start N vs) H) : FnG P w K mg base (k + 1) f fd ps sp := by
  obtain ⟨oc, od, kV, doc, pm, an, cdv, ct, osl, rfl, lk, hcd⟩ := F.ex
  refine ⟨many, fun A outer s H args us vs Q E room free e0 binds vals hsp => ?_⟩
  have cnt := many vs H Q E hsp
  have stands : ∀ b o, base.get? b = some o → s.heap.get? b = some o := fun b o e => (e0.bs b o e).1
  have inK : K.In s.heap := e0.mod.kin.keeps stands
  have kinds : ∀ y ∈ ps.zip us, (defScope st).names.lookup y.1 = some .local ∨ ((defScope st).names.lookup y.1 = some .cell ∧ ((cellsFrom (s.heap.objs.size + 1) (defScope st).names []).lookup y.1).isSome = true) := by
    rintro ⟨nm, vl⟩ hm
    exact (S.par nm (List.of_mem_zip hm).1).imp id fun c => ⟨c, PySem.W.cellsFrom_some _ _ _ (.inl c)⟩
  refine codeAny_call_function room.depth (inK _ _ lk) rfl S.co S.gen rfl (PySem.W.codeRec_of inK hcd) (binds _ _ _ _ (wpAny_newFunctionEnv_cells S.kind kinds fun env he s1 fresh => ?_))
  subst he
  refine ⟨(e0.mod.nolimit.keeps stands).keeps fresh.toInCall.keep, codeAny_func ?_⟩
  obtain ⟨t, ht, hq⟩ := walk cdv A outer s H vs Q E (room.deeper _) free hsp
  have J0 : Inv (cxOf CX0 P w K mg base N qual (defScope st) f cdv A outer s H E) [] (start N vs) H s1 := inv_start S room.hd e0 cnt vals fresh
  refine wpAny_mono (ht.nox.run [] s1 (start N vs) H _ J0 hq) (fun fl s2 done => ?_) fun _ _ z => z
  cases fl with
  | ret u => obtain ⟨v, σ2, H2, J, rv, qv⟩ := done; exact ⟨v, H2, J.os, J.bare, J.base, J.hok, rv, qv⟩
  | next => obtain ⟨σ2, H2, J, qv⟩ := done; exact ⟨V.non, H2, J.os, J.bare, J.base, J.hok, rfl, qv⟩
  | brk => obtain ⟨_, _, _, qv⟩ := done; exact qv.elim
  | cont => obtain ⟨_, _, _, qv⟩ := done; exact qv.elim
theorem FnG.of {k : Nat} {f : Addr} {fd : FuncData} {ps : List Str} {sp : Sp} (F : FnOk P w K mg base CX0 k f fd ps sp) : FnG P w K mg base k f fd ps sp :=
  ⟨F.len, fun A outer s H args us vs Q E room _ => F.run A outer s H args us vs Q E room⟩
end
structure ClG (P : Program) (w : World) (K : PySem.W.Frag) (mg : Str → Option Value) (base : Heap) (k : Nat) (x : Str) (ps : List Str) (sp : Sp) : Prop where
  ex : ∃ (f : Addr) (fd : FuncData), FnG P w K mg base k f fd ps sp ∧ mg x = some (.ref f) ∧ PySem.W.keepIn K (.ref f) = true ∧ Binds K fd ps []
section
variable {X : Cx}
theorem run_G {k : Nat} {f : Addr} {fd : FuncData} {ps : List Str} {sp : Sp} {pn : List (Addr × Obj)} {σ : L2.St} {H : Hp} {s : Shared} {Q : VK} {us : List Value} {vs : List V} (F : FnG X.prog X.w X.K X.mg X.base k f fd ps sp) (room : Room k X.A) (free : X.A.guards = some []) (bd : Binds X.K fd ps [])
    (I : Inv X pn σ H s) (r : Vals vs us) (h : sp (vs ++ []) H Q E0) : wpAny (model X.prog X.w) X.A (call (.ref f) us) (EP X pn σ Q) X.xe s := by
  have r2 : Vals (vs ++ []) (us ++ []) := r.append .nil
  refine wpAny_call (codeAny_mono (F.goes X.A X.stack s H ⟨us, []⟩ (us ++ []) (vs ++ []) Q E0 room free I.env0 (bd s us I.kIn (by rw [← r2.length]; exact F.many _ _ _ _ h)) r2 h) fun res s2 hq => ?_)
  cases res with
  | error e => exact (hq : False).elim
  | ok fl => cases fl with
    | ret u => exact I.after hq
    | next => exact (hq : False).elim
    | brk => exact (hq : False).elim
    | cont => exact (hq : False).elim
theorem pe_clG {k : Nat} {x : Str} {ps : List Str} {sp : Sp} {p pos : Pos} {e : Expr} {es : List Expr} {t : TA} (C : ClG X.prog X.w X.K X.mg X.base k x ps sp) (room : Room k X.A) (free : X.A.guards = some []) (hg : Gl X x) (ha : PA X (e :: es) t)
    (hdb : (x == ("__debug__" : Str)) = false := by decide) (he : starEach (e :: es) X.env = (false, eval e X.env) :: starEach es X.env := by rfl) (hpl : (backTo pos (starEach es X.env)).any (·.1) = false := by rfl) :
    PE X (.Call (.Name x p) (e :: es) [] pos) (tCall sp [] E0 t) := by
  obtain ⟨f, fd, F, hm, hk, hb⟩ := C.ex
  refine ⟨fun pn s σ H Q I h => wpAny_Call_Name_kw (ld_glob I hg hm ?_ hdb)⟩
  exact PySem.W.callWith_K (h₀ := X.base) I.ok.mod.kin hk (thn (ha.run pos pn s σ H _ I h) fun us s1 ⟨vs, H1, I1, r, q⟩ => ⟨I1.kIn, run_G F room free hb I1 r q⟩) he hpl
/-! ### repr of data -/
def rRepr (K : PySem.W.Frag) : List V → Hp → VK → Prop := fun xs H Q => ∃ (a : Addr) (d : PyData), xs = [.ref a] ∧ Dp K H (.ref a) d ∧ d.showable = true ∧ d.hasDict = false ∧ d.depth ≤ 60 ∧ d.shown.length ≤ sizeLine ∧ ∀ z : Str, z = d.shown → Q (.str z) H
theorem call_repr (free : X.A.guards = some []) (hu : X.A.units + 64 < cLine) : CallR X (.builtin "repr") (rRepr X.K) := by
  intro pn s σ H xs us Q I r h
  obtain ⟨a, d, rfl, hd, h1, h2, h3, h4, q⟩ := h
  obtain ⟨u, rfl, r1⟩ := vals1 r
  obtain ⟨as, rd⟩ := Dp.reads I d _ u hd r1
  cases r1
  exact repr_of_reads' rd h1 (fun z => by rw [h2] at z; cases z) free (by omega) (fun _ _ e => e) (fun h' u tk hk => ⟨.str _, H, I.kept hk, ⟨_, rfl⟩, q _ rfl⟩) h4
def rReprB : List V → Hp → VK → Prop := fun xs H Q => ∃ b : Bool, xs = [.bl b] ∧ ∀ z : Str, z = (if b then Str.ofString "True" else Str.ofString "False") → Q (.str z) H
theorem call_reprB : CallR X (.builtin "repr") rReprB := by
  intro pn s σ H xs us Q I r h
  obtain ⟨b, rfl, q⟩ := h
  obtain ⟨u, rfl, r1⟩ := vals1 r
  cases r1
  exact PySem.P.repr_of_bool ⟨.str _, H, I.tok _, ⟨_, rfl⟩, q _ rfl⟩
end
/-! ### the law itself, called where no guard stands -/
theorem lawG {P : Program} {w : World} {K : PySem.W.Frag} {mg mb : Str → Option Value} {k : Nat} {fa a : Addr} {fd : FuncData} {x : Str} {sp : Sp} {s0 : Shared} {us : List Value} {ns : List Int}
    (inK : K.In s0.heap) (gl : s0.heap.Ns mainGlobals mg) (bl : s0.heap.Ns builtinsNs mb) (bb : ∀ x : Str, x ≠ "__name__" → mb x = bootBuiltins x) (nl : s0.heap.NoLimit) (ng : s0.gens = #[])
    (sc : s0.heap.get? a = some { cls := .type "list", data := .seq us.toArray }) (hin : IntsAre us ns) (short : ns.length ≤ sizeLine) (room : Room k callerA)
    (F : ∀ base : Heap, K.In base → base.Ns mainGlobals mg → FnG P w K mg base k fa fd [x] sp) (bd : ∀ (s : Shared) (u : Value), BindsTo s fd ⟨[u], []⟩ [(x, u)])
    (hsp : ∀ H : Hp, Only H → SqL K H a (ns.map V.int) → sp [.ref a] H (fun v _ => v = .bl true) E0) :
    codeAny (model P w) callerA (.call (.ref fa) ⟨[.ref a], []⟩) (fun r s2 => r = .ok (.ret (.bool true)) ∧ OldK s0.heap s2.heap ∧ s2.os = s0.os ∧ AllBare s2.gens) s0 := by
  have rel := vals_ints hin
  have main : ∀ H : Hp, Only H → SqL K H a (ns.map V.int) → HOk P w H s0.heap → (∀ b u, H b = some u → b = a ∧ K.lookup a = none) →
      codeAny (model P w) callerA (.call (.ref fa) ⟨[.ref a], []⟩) (fun r s2 => r = .ok (.ret (.bool true)) ∧ OldK s0.heap s2.heap ∧ s2.os = s0.os ∧ AllBare s2.gens) s0 := by
    intro H only seq hok just
    have free : ∀ {b : Addr}, (b = a → K.lookup a = none → False) → H b = none := fun {b} no => by
      cases z : H b with
      | none => rfl
      | some u => exact (no (just b u z).1 (just b u z).2).elim
    have spaces : ∀ {b : Addr} {m : Str → Option Value}, s0.heap.Ns b m → (hidT s0.heap H).Ns b m := fun {b m} h => by
      obtain ⟨o, es, ep, e, d, r⟩ := h
      refine ⟨o, es, ep, hidT_get e (free fun z _ => ?_), d, r⟩
      subst z
      rw [sc] at e
      cases e
      cases d
    have inB : K.In (hidT s0.heap H) := fun b o e => hidT_get (inK b o e) (free fun z n => by
      subst z
      rw [n] at e
      cases e)
    have md : Mod K mg (hidT s0.heap H) := by
      obtain ⟨mc, n1, n2⟩ := nl
      exact ⟨inB, spaces gl, ⟨mb, spaces bl, bb⟩, ⟨mc, spaces n1, n2⟩⟩
    have en : Env0 P w K mg (hidT s0.heap H) callerA [] s0 H := ⟨rfl, md, fun b o e => of_hidT e, Nat.le_of_eq (hidT_size _ _), trivial, (fun b z => nomatch (show b ∈ ([] : List Addr) from z)), hok, .of_eq ng⟩
    refine codeAny_mono ((F _ inB (spaces gl)).goes callerA [] s0 H ⟨[.ref a], []⟩ [.ref a] [.ref a] _ _ room rfl en (bd s0 (.ref a)) (.cons rfl .nil) (hsp H only seq)) fun r s2 h => ?_
    match r, h with
    | .error e, h => exact (h : False).elim
    | .ok .next, h => exact (h : False).elim
    | .ok .brk, h => exact (h : False).elim
    | .ok .cont, h => exact (h : False).elim
    | .ok (.ret u), h =>
      obtain ⟨v, H2, os, bare, un, hok2, rv, rfl⟩ := h
      obtain rfl : u = Value.bool true := rv
      refine ⟨rfl, OldK.of_keep fun b o e => ?_, os, bare⟩
      rcases only b with z | ⟨ob, xs, z⟩
      · exact un.keep b o e z (fun m => nomatch (show b ∈ ([] : List Addr) from m)) (fun m => nomatch m)
      · have e1 := (hok b _ z).1
        have e2 := (hok2 b _ (un.frzs b ob _ z)).1
        rw [e] at e1
        cases e1
        exact e2
  cases own : K.lookup a with
  | some o =>
    have e := inK a o own
    rw [sc] at e
    cases e
    exact main (fun _ => none) (fun _ => .inl rfl) (.inr ⟨_, us.toArray, _, own, rfl, rfl, rfl, by rw [List.size_toArray, hin.length]; exact short, by simpa using rel⟩) (fun b u z => nomatch z) (fun b u z => nomatch z)
  | none =>
    refine main (fun b => if b = a then some (.frz { cls := .type "list", data := .seq us.toArray } (.lst (ns.map V.int))) else none) (fun b => ?_) (.inl (.inr ⟨{ cls := .type "list", data := .seq us.toArray }, if_pos rfl⟩)) (fun b u z => ?_) (fun b u z => ?_)
    · by_cases e : b = a
      · exact .inr ⟨_, _, if_pos e⟩
      · exact .inl (if_neg e)
    · by_cases e : b = a
      · have z2 := (if_pos e).symm.trans z
        cases z2
        subst e
        exact ⟨sc, by rw [List.length_map]; exact short, us, _, rel, sc⟩
      · exact nomatch ((if_neg e).symm.trans z)
    · by_cases e : b = a
      · exact ⟨e, own⟩
      · exact nomatch ((if_neg e).symm.trans z)
theorem walk_G {l : PySem.W.OpenLaw} {n k : Nat} {q : Program} {loose : List Str} {XP : (Str → Option Value) → Heap → Prop} {YP : World → Heap → Prop} {d : DefRec} {K : Params → PySem.W.Frag} {sp : World → Sp} {x : Str}
    (most : l.most = some n) (n2 : n ≤ sizeLine) (nd : d.params.defaults = []) (room : Room k callerA) (hY : ∀ (w : World) (h : Heap), YP w h → (K w.params).In h)
    (F : ∀ (w : World) (mg : Str → Option Value) (fa : Addr) (h : Heap), (K w.params).In h → h.Ns mainGlobals mg → mg d.name = some (.ref fa) →
      ∃ fd : FuncData, (∀ (s : Shared) (u : Value), BindsTo s fd ⟨[u], []⟩ [(x, u)]) ∧ ∀ base : Heap, (K w.params).In base → base.Ns mainGlobals mg → FnG l.prog w (K w.params) mg base k fa fd [x] (sp w))
    (hsp : ∀ (w : World) (H : Hp) (a : Addr) (ns : List Int), ns.length ≤ n → Only H → SqL (K w.params) H a (ns.map V.int) → sp w [.ref a] H (fun v _ => v = .bl true) E0) :
    PySem.W.WalkO q loose XP YP l.row.toRowW d [] (fun f vs => PySem.call f vs) := by
  refine Att.attach_call most nd fun w sA sB mg mb fa o pm cd doc a us ns G Y ho hd hcd hmg hobj hints hlen hg => ?_
  obtain ⟨fd, hb, hF⟩ := F w mg fa _ (hY w _ Y) G.T.g hmg
  exact lawG (hY w _ Y) G.T.g G.T.b G.T.builtins G.T.nolimit hg hobj hints (Nat.le_trans hlen n2) room hF hb fun H only seq => hsp w H a ns hlen only seq
end Rt
namespace Rt
open PySem PySem.Spec PyProof.Rows L2
theorem at_new {H H' : Hp} {p : Addr} {o : HO} (e : H' = upd H p o) : H' p = some o := by
  rw [e]
  exact upd_same
theorem SqT.frz {K : PySem.W.Frag} {H : Hp} {a : Addr} {o : Obj} {xs : List V} (h : H a = some (.frz o (.tup xs))) : SqT K H a xs := .inl (.inr ⟨o, h⟩)
section
variable {X : Cx}
/-- tuple(list), its object known -/
def rTupF (K : PySem.W.Frag) : List V → Hp → VK → Prop := fun xs H Q => ∃ p ys, xs = [.ref p] ∧ SqL K H p ys ∧ ∀ l o H', H l = none → o.dict = none → H' = upd H l (.frz o (.tup ys)) → Q (.ref l) H'
theorem call_tupF : CallR X (.type "tuple") (rTupF X.K) := by
  intro pn s σ H xs us Q I r h
  obtain ⟨p, ys, rfl, hq, q⟩ := h
  obtain ⟨u, rfl, rx⟩ := vals1 r
  cases rx
  obtain ⟨its, r', pl, hz⟩ := I.list hq
  have hln := r'.length
  refine call_tuple_list pl.isList (fun h2 kp => ?_) (by simp only [List.size_toArray] <;> omega)
  have J : Inv X pn σ H { s with heap := h2 } := I.kept (t' := s.toks) kp
  have J2 : Inv X pn σ (upd H h2.objs.size (.frz { cls := .type "tuple", data := .seq its.toArray } (.tup ys))) { s with heap := h2.push { cls := .type "tuple", data := .seq its.toArray } } :=
    J.laid (t' := s.toks) (fun b o e => Heap.get?_push_of_some _ e) (Nat.le_refl _) (show ObjOk X.prog X.w _ _ _ (.frz { cls := .type "tuple", data := .seq its.toArray } (.tup ys)) from ⟨Heap.get?_push_size _ rfl, hz, its, r', IsTup.new _ _⟩)
  exact ⟨.ref h2.objs.size, _, J2, rfl, q _ _ _ (J.hok.fresh (Nat.le_refl _)) rfl rfl⟩
/-- t.index(z) of such a tuple of texts -/
def tIdxF (K : PySem.W.Frag) (to : TE) (t : TA) : TE := fun σ H Q => to σ H fun x H1 => ∃ p o, ∃ ys : List Str, x = .ref p ∧ H1 p = some (.frz o (.tup (ys.map V.str))) ∧ o.dict = none ∧ t σ H1 fun xs H2 => ∃ z j, xs = [.str z] ∧ SqT K H2 p (ys.map V.str) ∧ ys[j]? = some z ∧ (∀ m, m < j → ys[m]? ≠ some z) ∧ Q (.int (j : Nat)) H2
theorem pe_idxF {ob e : Expr} {to : TE} {t : TA} {apos cpos : Pos} (ho : PE X ob to) (ha : PA X [e] t)
    (hbase : attributeBase ob "index" X.env (eval ob X.env) = eval ob X.env := by rfl)
    (hfew : ((backTo cpos (starEach [e] X.env)).all (fun x => !x.1) && (backToKw cpos (keywordEach [] X.env)).all (fun x => x.1.isSome) && decide (([e] : List Expr).length + ([] : List Keyword).length + (if ([] : List Keyword).isEmpty then 0 else 1) < 30)) = true := by rfl)
    (hline : (apos.endLine == cpos.line) = true := by rfl) (hs : starEach [e] X.env = (false, eval e X.env) :: starEach [] X.env := by rfl) (hplain : (backTo cpos (starEach [] X.env)).any (·.1) = false := by rfl) :
    PE X (.Call (.Attribute ob "index" apos) [e] [] cpos) (tIdxF X.K to t) := by
  refine ⟨fun pn s σ H Q I h => wpAny_Call_method_late hbase hfew hline rfl (thn (ho.run pn s σ H _ I h) fun v s1 done => ?_)⟩
  obtain ⟨x, H1, I1, r1, p, o, ys, rfl, hp, hd, q1⟩ := done
  obtain ⟨he, _, its, _, hT⟩ := I1.hok p _ hp
  have ev : v = Value.ref p := by cases r1; rfl
  refine ⟨"tuple", "tuple.index", PySem.F.plainAttrs_tuple, PySem.F.slot_tuple_index, PySem.F.type_tuple_index, by rw [ev]; exact hT.typeIs, fun a z => ?_, ?_⟩
  · rw [ev] at z
    cases z
    exact ⟨o, he, hd⟩
  have hA := ha.run cpos pn s1 σ H1 _ I1 q1
  rw [hs] at hA ⊢
  refine Calls.callWith_builtin (by show (false || (backTo cpos (starEach [] X.env)).any (·.1)) = false; rw [hplain] <;> rfl) (Calls.evalArgs_plain (thn hA fun us s2 more => ?_))
  obtain ⟨vs, H2, I2, r2, z, j, e1, e2, e3, e4, q2⟩ := more
  exact mt_tup_index pn s2 σ H2 (.ref p) vs v us Q I2 r1 r2 ⟨p, ys, z, j, rfl, e1, e2, e3, e4, q2⟩
end
end Rt
namespace Rt
open PySem PySem.Spec PyProof.Rows L2
mutual
/-- data in tuples -/
inductive Td (H : Hp) : V → PyData → Prop
  | non : Td H .non .none
  | bl (b : Bool) : Td H (.bl b) (.bool b)
  | int (i : Int) : Td H (.int i) (.int i)
  | str (z : Str) : Td H (.str z) (.str z)
  | tup {a : Addr} {xs : List V} {ds : List PyData} : H a = some (.tup xs) → TdAll H xs ds → Td H (.ref a) (.tuple ds)
inductive TdAll (H : Hp) : List V → List PyData → Prop
  | nil : TdAll H [] []
  | cons {v : V} {vs : List V} {d : PyData} {ds : List PyData} : Td H v d → TdAll H vs ds → TdAll H (v :: vs) (d :: ds)
end
mutual
theorem Td.mono {H H' : Hp} (t : Tk H H') : ∀ {v : V} {d : PyData}, Td H v d → Td H' v d
  | _, _, .non => .non
  | _, _, .bl b => .bl b
  | _, _, .int i => .int i
  | _, _, .str z => .str z
  | _, _, .tup e a => .tup (t _ _ e) (a.mono t)
theorem TdAll.mono {H H' : Hp} (t : Tk H H') : ∀ {v : List V} {d : List PyData}, TdAll H v d → TdAll H' v d
  | _, _, .nil => .nil
  | _, _, .cons a b => .cons (a.mono t) (b.mono t)
end
mutual
theorem Td.dp {K : PySem.W.Frag} {H : Hp} : ∀ {v : V} {d : PyData}, Td H v d → Dp K H v d
  | _, _, .non => .non
  | _, _, .bl b => .bl b
  | _, _, .int i => .int i
  | _, _, .str z => .str z
  | _, _, .tup e a => .tup (SqT.of e) a.dp
theorem TdAll.dp {K : PySem.W.Frag} {H : Hp} : ∀ {v : List V} {d : List PyData}, TdAll H v d → DpAll K H v d
  | _, _, .nil => .nil
  | _, _, .cons a b => .cons a.dp b.dp
end
/-- how deep, and how long it is shown -/
structure Lim (k n : Nat) (dd : PyData) : Prop where
  s : dd.showable = true
  h : dd.hasDict = false
  d : dd.depth ≤ k
  l : dd.shown.length ≤ n
theorem Lim.up {k n k' n' : Nat} {d : PyData} (h : Lim k n d) (a : k ≤ k') (b : n ≤ n') : Lim k' n' d := ⟨h.s, h.h, Nat.le_trans h.d a, Nat.le_trans h.l b⟩
theorem lim_all {k n : Nat} : ∀ {ds : List PyData}, (∀ d ∈ ds, Lim k n d) → PyData.showableAll ds = true ∧ PyData.hasDictAll ds = false ∧ PyData.depthAll ds ≤ k ∧ ((PyData.shownAll ds).map (·.length)).sum ≤ ds.length * n ∧ (PyData.shownAll ds).length = ds.length
  | [], _ => ⟨rfl, rfl, Nat.zero_le _, Nat.zero_le _, rfl⟩
  | d :: r, h => by
    obtain ⟨a, b, c, e, f⟩ := lim_all (ds := r) fun x hx => h x (List.mem_cons_of_mem _ hx)
    have hd := h d List.mem_cons_self
    refine ⟨?_, ?_, ?_, ?_, ?_⟩
    · show (d.showable && PyData.showableAll r) = true
      rw [hd.s, a]; rfl
    · show (d.hasDict || PyData.hasDictAll r) = false
      rw [hd.h, b]; rfl
    · show max d.depth (PyData.depthAll r) ≤ k
      exact Nat.max_le.mpr ⟨hd.d, c⟩
    · show d.shown.length + ((PyData.shownAll r).map (·.length)).sum ≤ (r.length + 1) * n
      rw [Nat.succ_mul]
      have := hd.l
      omega
    · show (PyData.shownAll r).length + 1 = r.length + 1
      rw [f]
theorem lim_tup {k n m : Nat} {ds : List PyData} (h : ∀ d ∈ ds, Lim k n d) (hm : ds.length ≤ m) : Lim (k + 1) (m * (n + 2) + 3) (.tuple ds) := by
  obtain ⟨a, b, c, e, f⟩ := lim_all h
  refine ⟨a, b, Nat.succ_le_succ c, Nat.le_trans (tupleText_len_le _) ?_⟩
  rw [f]
  have : ds.length * (n + 2) ≤ m * (n + 2) := Nat.mul_le_mul_right _ hm
  have e2 : ds.length * (n + 2) = ds.length * n + 2 * ds.length := by rw [Nat.mul_add, Nat.mul_comm ds.length 2]
  omega
theorem lim_lst {k n m : Nat} {ds : List PyData} (h : ∀ d ∈ ds, Lim k n d) (hm : ds.length ≤ m) : Lim (k + 1) (m * (n + 2) + 3) (.list ds) := by
  obtain ⟨a, b, c, e, f⟩ := lim_all h
  refine ⟨a, b, Nat.succ_le_succ c, Nat.le_trans (listText_len_le _) ?_⟩
  rw [f]
  have : ds.length * (n + 2) ≤ m * (n + 2) := Nat.mul_le_mul_right _ hm
  have e2 : ds.length * (n + 2) = ds.length * n + 2 * ds.length := by rw [Nat.mul_add, Nat.mul_comm ds.length 2]
  omega
/-- it is data in tuples that is shown within n signs -/
def Sh (k n : Nat) (H : Hp) (v : V) : Prop := ∃ d, Td H v d ∧ Lim k n d
theorem Sh.mono {k n : Nat} {H H' : Hp} {v : V} (t : Tk H H') (h : Sh k n H v) : Sh k n H' v := by
  obtain ⟨d, a, b⟩ := h
  exact ⟨d, a.mono t, b⟩
theorem Sh.up {k n k' n' : Nat} {H : Hp} {v : V} (h : Sh k n H v) (a : k ≤ k') (b : n ≤ n') : Sh k' n' H v := by
  obtain ⟨d, x, y⟩ := h
  exact ⟨d, x, y.up a b⟩
theorem sh_all {k n : Nat} {H : Hp} : ∀ {xs : List V}, (∀ x ∈ xs, Sh k n H x) → ∃ ds, TdAll H xs ds ∧ (∀ d ∈ ds, Lim k n d) ∧ ds.length = xs.length
  | [], _ => ⟨[], .nil, (fun d h => nomatch h), rfl⟩
  | x :: r, h => by
    obtain ⟨d, a, b⟩ := h x List.mem_cons_self
    obtain ⟨ds, c, e, f⟩ := sh_all (xs := r) fun y hy => h y (List.mem_cons_of_mem _ hy)
    refine ⟨d :: ds, .cons a c, fun z hz => ?_, by rw [List.length_cons, List.length_cons, f]⟩
    rcases List.mem_cons.mp hz with q | q
    · rw [q]; exact b
    · exact e z q
theorem Sh.tup {k n m : Nat} {H : Hp} {a : Addr} {xs : List V} (e : H a = some (.tup xs)) (h : ∀ x ∈ xs, Sh k n H x) (hm : xs.length ≤ m) : Sh (k + 1) (m * (n + 2) + 3) H (.ref a) := by
  obtain ⟨ds, c, l, f⟩ := sh_all h
  exact ⟨.tuple ds, .tup e c, lim_tup l (by omega)⟩
theorem Sh.int {H : Hp} {i : Int} (h : i.natAbs < 10 ^ 18) : Sh 0 19 H (.int i) := by
  refine ⟨.int i, .int i, ⟨?_, rfl, Nat.le_refl _, ?_⟩⟩
  · show decide (i.natAbs.log2 < 1920) = true
    refine decide_eq_true ?_
    have : i.natAbs.log2 < 60 ∨ i.natAbs = 0 := by
      by_cases z : i.natAbs = 0
      · exact .inr z
      · exact .inl ((Nat.log2_lt z).mpr (Nat.lt_of_lt_of_le h (by decide)))
    rcases this with q | q
    · omega
    · rw [q]; decide
  · have := int_text_length_le10 (a := i) (k := 18) (by decide) h
    show (Str.ofString (toString i)).length ≤ 19
    rw [PySem.ofString_length]
    exact this
theorem Sh.non {H : Hp} : Sh 0 19 H .non := ⟨.none, .non, ⟨rfl, rfl, Nat.le_refl _, by decide⟩⟩
theorem Sh.str {H : Hp} {z : Str} (h : (reprText z).length ≤ 19) : Sh 0 19 H (.str z) := ⟨.str z, .str z, ⟨rfl, rfl, Nat.le_refl _, h⟩⟩
theorem szB {n : Nat} (h : n ≤ 10000000) : n ≤ sizeLine := Nat.le_trans h (by decide)
end Rt
namespace Rt
theorem six {n : Int} (h1 : 1 ≤ n) (h6 : n ≤ 6) : n = 1 ∨ n = 2 ∨ n = 3 ∨ n = 4 ∨ n = 5 ∨ n = 6 := by omega
theorem first_place {n s pl : Int} (h1 : 1 ≤ n) (h6 : n ≤ 6) (p0 : 0 ≤ pl) (p1 : pl < n) : (s + (pl - s) % n) % n = pl ∧ s ≤ s + (pl - s) % n := by
  rcases six h1 h6 with rfl | rfl | rfl | rfl | rfl | rfl <;> omega
theorem first_least {n s pl m : Int} (h1 : 1 ≤ n) (h6 : n ≤ 6) (p0 : 0 ≤ pl) (p1 : pl < n) (hs : s ≤ m) (hm : m % n = pl) : s + (pl - s) % n ≤ m := by
  rcases six h1 h6 with rfl | rfl | rfl | rfl | rfl | rfl <;> omega
theorem round_on {n m c : Int} (h1 : 1 ≤ n) (h6 : n ≤ 6) : (m + n * c) % n = m % n := by
  rcases six h1 h6 with rfl | rfl | rfl | rfl | rfl | rfl <;> omega
theorem just_one {n m h j : Int} (h1 : 1 ≤ n) (h6 : n ≤ 6) (p0 : 0 ≤ h) (p1 : h < n) (j0 : 0 ≤ j) (j1 : j < n) : (m + j) % n = h ↔ j = (h - m) % n := by
  rcases six h1 h6 with rfl | rfl | rfl | rfl | rfl | rfl <;> omega
theorem cnt_eq (q : Nat → Bool) (k : Nat) : ∀ i, (∀ j, j < i → (q j = true ↔ j = k)) → (List.range i).countP q = if k < i then 1 else 0
  | 0, _ => by simp
  | i + 1, h => by
    rw [List.range_succ, List.countP_append, cnt_eq q k i fun j hj => h j (by omega), List.countP_singleton]
    have hi := h i (by omega)
    by_cases e : i = k
    · rw [if_pos (hi.mpr e), if_neg (by omega), if_pos (by omega)]
    · have hq : ¬ q i = true := fun z => e (hi.mp z)
      rw [if_neg hq]
      by_cases e2 : k < i
      · rw [if_pos e2, if_pos (by omega)]
      · rw [if_neg e2, if_neg (by omega)]
theorem one_in_round {n m h : Int} (h1 : 1 ≤ n) (h6 : n ≤ 6) (p0 : 0 ≤ h) (p1 : h < n) : (List.range n.toNat).countP (fun j : Nat => decide ((m + j) % n = h)) = 1 := by
  have hk0 : 0 ≤ (h - m) % n := Int.emod_nonneg _ (by omega)
  have hk1 : (h - m) % n < n := Int.emod_lt_of_pos _ (by omega)
  rw [cnt_eq _ ((h - m) % n).toNat n.toNat fun j hj => ?_, if_pos (by omega)]
  rw [decide_eq_true_eq, just_one h1 h6 p0 p1 (by omega) (by omega)]
  omega
theorem cnt_or (p q : Nat → Bool) : ∀ l : List Nat, (∀ x ∈ l, ¬ (p x = true ∧ q x = true)) → l.countP (fun x => p x || q x) = l.countP p + l.countP q
  | [], _ => rfl
  | a :: r, h => by
    rw [List.countP_cons, List.countP_cons, List.countP_cons, cnt_or p q r fun x hx => h x (List.mem_cons_of_mem _ hx)]
    have ha := h a List.mem_cons_self
    cases e1 : p a <;> cases e2 : q a
    · simp
    · simp; omega
    · simp; omega
    · exact absurd ⟨e1, e2⟩ ha
theorem all_in_round {n m : Int} (h1 : 1 ≤ n) (h6 : n ≤ 6) : ∀ hs : List Int, hs.Pairwise (· < ·) → (∀ h ∈ hs, 0 ≤ h ∧ h < n) → (List.range n.toNat).countP (fun j : Nat => decide ((m + j) % n ∈ hs)) = hs.length
  | [], _, _ => by simp
  | h :: r, hp, ha => by
    have hp' := List.pairwise_cons.mp hp
    have e : (fun j : Nat => decide ((m + j) % n ∈ h :: r)) = fun j : Nat => decide ((m + j) % n = h) || decide ((m + j) % n ∈ r) := by
      funext j
      simp [List.mem_cons]
    rw [e, cnt_or, one_in_round h1 h6 (ha h List.mem_cons_self).1 (ha h List.mem_cons_self).2, all_in_round h1 h6 r hp'.2 fun x hx => ha x (List.mem_cons_of_mem _ hx), List.length_cons]
    · omega
    · intro x _ z
      have z1 := of_decide_eq_true z.1
      have z2 := of_decide_eq_true z.2
      rw [z1] at z2
      have := hp'.1 h z2
      omega
end Rt
namespace Rt
open PySem PySem.Spec PyProof.Rows L2
/-! ### enumerate(tuple) -/
theorem new_enum {v : Value} {o : Obj} {Hq : Heap → Prop} (B : Begins v o Hq) :
    Meets (Builtin.«enumerate.__new__» ⟨[.type "enumerate", v], []⟩) (fun _ R s => Hq s.heap ∧
      R (.ok (.ret (.ref (s.heap.push o).objs.size))) { s with heap := (s.heap.push o).push { cls := .type "enumerate", data := .fields #[.none, .bool false, .ref s.heap.objs.size, rawInt 0, .none, .none] } }) :=
  .of_wp fun prog w A R s h => by
    obtain ⟨hp, gn, dr, tk, os⟩ := s; obtain ⟨hq, h⟩ := h
    have sub := sub_enumerate
    have it : ∀ {A2 : Around} {E : Value → Shared → Prop} {Q : Value → Shared → Prop}, Q (.ref hp.objs.size) ⟨hp.push o, gn, dr, tk, os⟩ → wpAny (model prog w) A2 (pyIter v) Q E ⟨hp, gn, dr, tk, os⟩ :=
      fun q => B.iter prog w _ _ ⟨hp, gn, dr, tk, os⟩ _ hq q
    wp_walk using it
    refine wpAny_stack_any fun st => wpAny_pure ?_
    split
    · rename_i c _ _ _ _ _
      cases (c == Value.type "enumerate")
      all_goals (wp_walk using it; exact ⟨_, rfl, h⟩)
    · wp_walk using it
      exact ⟨_, rfl, h⟩
section
variable {prog : Program} {w : World} {A : Around} {E : Value → Shared → Prop} {s : Shared}
theorem call_enum {v : Value} {o : Obj} {Hq : Heap → Prop} {Q : Value → Shared → Prop} (B : Begins v o Hq) (hq : Hq s.heap)
    (h : ∀ h2, IsEnum h2 (s.heap.objs.size + 1) s.heap.objs.size 0 .none → h2.get? s.heap.objs.size = some o → (∀ b ob, s.heap.get? b = some ob → h2.get? b = some ob) → Q (.ref (s.heap.objs.size + 1)) { s with heap := h2 }) :
    wpAny (model prog w) A (call (.type "enumerate") [v]) Q E s := by
  refine callType_new F.called_enumerate (by decide) (F.typeCall_enumerate_1 _) (F.newCall_enumerate_1 _) (fun obj => F.args_object_init_2 obj _) F.entry_enumerate_new (new_enum B) ⟨hq, ?_⟩
  have sz1 : (s.heap.push o).objs.size = s.heap.objs.size + 1 := Heap.size_push ..
  have en : IsEnum ((s.heap.push o).push { cls := .type "enumerate", data := .fields #[.none, .bool false, .ref s.heap.objs.size, rawInt 0, .none, .none] }) (s.heap.objs.size + 1) s.heap.objs.size 0 .none := by
    have z := Heap.get?_push_size (s.heap.push o) (o := { cls := .type "enumerate", data := .fields #[.none, .bool false, .ref s.heap.objs.size, rawInt 0, .none, .none] }) rfl
    rwa [sz1] at z
  show _ ∧ _
  rw [sz1]
  exact ⟨⟨_, en, rfl⟩, h _ en (Heap.get?_push_of_some _ (Heap.get?_push_size _ B.free)) fun b ob z => Heap.get?_push_of_some _ (Heap.get?_push_of_some _ z)⟩
end
/-- the tuple at a as it stands at each turn, each item in a new pair -/
def IteT (K : PySem.W.Frag) (a : Addr) : It :=
  ⟨fun i H => ∃ (xs : List V) (x : V), SqT K H a xs ∧ xs[i]? = some x, fun i H v H' => ∃ T x, v = .ref T ∧ H T = none ∧ H' = upd H T (.tup [.int (i : Nat), x]) ∧ ∀ xs, SqT K H a xs → xs[i]? = some x, fun i H => ∃ xs : List V, SqT K H a xs ∧ xs.length = i⟩
theorem turn_enumT {P : Program} {w : World} {K : PySem.W.Frag} {elts : List Expr} {kk : Nat} {tpos : Pos} (a e it : Addr) :
    Turn P w K (.Tuple elts kk tpos) (IteT K a) [e, it] e (fun i h => (∃ old, IsEnum h e it ((i : Nat) : Int) old) ∧ h.IsTupleIter it a i ∧ e ≠ it ∧ a ≠ it ∧ a ≠ e) where
  mem := by simp
  obj := by
    rintro i h ⟨⟨old, he⟩, ⟨o, ho, hc, hd⟩, _⟩ b hb
    rcases (by simpa using hb : b = e ∨ b = it) with rfl | rfl
    · exact ⟨_, he, fun v q => nomatch q⟩
    · exact ⟨o, ho, fun v q => by rw [hd] at q; cases q⟩
  keep := by
    rintro i h h2 ⟨⟨old, he⟩, hi, ne⟩ k
    exact ⟨⟨old, k e (by simp) _ he⟩, hi.at fun o q => k it (by simp) o q, ne⟩
  item := by
    intro X hP hw hK hc i pn s σ H E I hf st hg
    subst hP hw hK
    obtain ⟨⟨old, he⟩, hit, ne, nai, nae⟩ := st
    obtain ⟨xs, x, hq, hx⟩ := hg
    obtain ⟨its, rv, tp, hz⟩ := I.tuple hq
    obtain ⟨u, hu, ru⟩ := rv.get hx
    have hel : e < s.heap.objs.size := Heap.lt_size he
    have hil : it < s.heap.objs.size := by obtain ⟨_, q, _⟩ := hit; exact Heap.lt_size q
    have hlt : i < its.toArray.size := by simpa using (List.getElem?_eq_some_iff.mp hu).1
    refine wpAny_pyNext_enum_itemD (Draws.tuple (A := X.A.in1) (I.ok.hd hc) it a nai its.toArray) he ⟨hit, tp⟩ hlt ne (by simp [ne, Ne.symm nae]) fun y h2 tk hy ho hst hT hsz hk => ?_
    have eu : y = u := by
      have : its.toArray[i]? = some u := by simpa using hu
      rw [this] at hy
      exact (Option.some.inj hy).symm
    subst eu
    refine ⟨_, rfl, wpAny_letOwnedTupleGo_enum (s := { s with heap := h2, toks := tk + 1 }) ho fun h3 he3 sb => ?_⟩
    have hT3 : h3.get? s.heap.objs.size = some { cls := .type "tuple", data := .seq #[.int i tk, y] } := (sb.2 _ (Nat.ne_of_gt hel)).trans hT
    have fresh : ObjOk X.prog X.w (upd H s.heap.objs.size (.tup [.int (i : Nat), x])) h3 s.heap.objs.size (.tup [.int (i : Nat), x]) :=
      ⟨sz (n := 2) (by decide), [.int i tk, y], .cons ⟨_, rfl⟩ (.cons ru .nil), ⟨_, hT3, rfl, _, rfl⟩⟩
    have J : Inv X pn σ (upd H s.heap.objs.size (.tup [.int (i : Nat), x])) { s with heap := h3, toks := tk + 1 } :=
      I.turnedNew (ch := [e, it]) (fun b ob hb q => (sb.2 b (fun z => hb (by simp [z]))).trans (hk b ob (fun z => hb (by simp [z])) (fun z => hb (by simp [z])) q)) hf (Nat.le_refl _) fresh
    have ci : ((i + 1 : Nat) : Int) = (i : Int) + 1 := by omega
    refine ⟨.ref s.heap.objs.size, _, J, rfl, ⟨_, x, rfl, I.hok.fresh (Nat.le_refl _), rfl, fun ys hy2 => by rw [I.tuple_inj hy2 hq]; exact hx⟩, ⟨⟨y, by rw [ci]; exact he3⟩, hst.1.at fun o q => (sb.2 it (Ne.symm ne)).trans q, ne, nai, nae⟩, fun b hb => ?_⟩
    have lt : b < s.heap.objs.size := by
      rcases (by simpa using hb : b = e ∨ b = it) with rfl | rfl
      · exact hel
      · exact hil
    rw [upd_ne (Nat.ne_of_lt lt)]
    exact (hf b hb).1
  done := by
    intro X hP hw hK hc i pn s σ H E I hf st hg
    subst hP hw hK
    obtain ⟨⟨old, he⟩, hit, ne, nai, nae⟩ := st
    obtain ⟨xs, hq, hx⟩ := hg
    obtain ⟨its, rv, tp, hz⟩ := I.tuple hq
    obtain ⟨f0, f1, f2, f3, f4, f5⟩ := hf it (by simp)
    have en : i = its.toArray.size := by rw [List.size_toArray, ← rv.length, hx]
    exact wpAny_pyNext_enum_endD (Draws.tuple (A := X.A.in1) (I.ok.hd hc) it a nai its.toArray) he ⟨by rw [← en]; exact hit, tp⟩ fun h2 eb => ⟨rfl, I.turned (t' := s.toks) (fun b o hb q => eb b o hb q) f0 f1 f3 f4 f5⟩
  self := by
    rintro A i s Q E ⟨⟨_, he⟩, _⟩ h
    exact wpAny_pyIter_enum he h
def iEnumT (K : PySem.W.Frag) (ta : TA) : TI := fun σ H R => ta σ H fun vs H1 => ∃ a xs, vs = [.ref a] ∧ SqT K H1 a xs ∧ R (IteT K a) H1
theorem pi_enumT {X : Cx} {e : Expr} {ta : TA} {p pos tpos : Pos} {elts : List Expr} {kk : Nat} (hg : Gl X "enumerate") (hm : X.mg "enumerate" = none) (ha : PA X [e] ta) (hs : starEach [e] X.env = [(false, eval e X.env)] := by rfl) :
    PI X (.Tuple elts kk tpos) (.Call (.Name "enumerate" p) [e] [] pos) (iEnumT X.K ta) := by
  refine ⟨fun pn s σ H R I h => Call_ (ld_blt I hg hm boot_enumerate (PyProof.Rows.callWith_type1 (thn (ha.run pos pn s σ H _ I h) fun us s1 done => ?_) hs rfl))⟩
  obtain ⟨vs, H1, J, r1, a, xs, rfl, hq, q⟩ := done
  obtain ⟨u, rfl, rx⟩ := vals1 r1
  cases rx
  obtain ⟨its, rv, tp, hz⟩ := J.tuple hq
  have hal : a < s1.heap.objs.size := by obtain ⟨_, z, _⟩ := tp; exact Heap.lt_size z
  refine call_enum (begins_tuple a its.toArray) tp fun h2 he hit hk => wpAny_pyIter_enum he ?_
  refine ⟨s1.heap.objs.size + 1, [s1.heap.objs.size + 1, s1.heap.objs.size], _, _, H1, rfl, J.kept (t' := s1.toks) hk, turn_enumT a (s1.heap.objs.size + 1) s1.heap.objs.size, ⟨⟨.none, he⟩, ⟨_, hit, rfl, rfl⟩, Nat.succ_ne_self _, Nat.ne_of_lt hal, Nat.ne_of_lt (Nat.lt_succ_of_lt hal)⟩, fun b hb => ?_, q⟩
  have le : s1.heap.objs.size ≤ b := by
    rcases (by simpa using hb : b = s1.heap.objs.size + 1 ∨ b = s1.heap.objs.size) with rfl | rfl
    · exact Nat.le_succ _
    · exact Nat.le_refl _
  exact J.fpOk le (J.hok.fresh le)
theorem walk_enumT {K : PySem.W.Frag} {a : Addr} {xs : List V} : Walk (IteT K a) xs.length (fun H => SqT K H a xs) (YPair (fun i => some (.int (i : Nat))) (fun i => xs[i]?)) := by
  refine ⟨fun i H hi z => ⟨xs, xs[i], z, by simp [hi]⟩, fun H z => ⟨xs, z, rfl⟩, fun i H v H' hi z y => ?_⟩
  obtain ⟨T, x, h1, h2, h3, h4⟩ := y
  exact ⟨T, .int (i : Nat), x, h1, h2, h3, rfl, h4 xs z⟩
end Rt
namespace Rt
open PySem PySem.Spec PyProof.Rows L2
/-! ### tuple * 1 -/
theorem tuple_mul1 (l : Addr) (items : Array Value) (n : Nat) (dd : Option Addr) (sl : Array (Option Value)) (u : Tok) (c1 : (items.isEmpty || (1 : Int) == 1) = true) :
    Meets (Builtin.«tuple.__mul__» ⟨[.ref l, .int 1 u], []⟩) (fun _ R s => s.heap.get? l = some { cls := .type "tuple", dict := dd, data := .seq items n, slots := sl } ∧
      R (.ok (.ret (Value.ref l))) s) :=
  .of_wp fun prog w A R s h => by
    obtain ⟨hp, g, d, tk, os⟩ := s
    obtain ⟨hl, h⟩ := h
    have f1 := AutoSeq1.idx_int
    have c0 : (decide ((1 : Int) < -(2 ^ 63)) || decide ((1 : Int) ≥ 2 ^ 63)) = false := by decide
    wp_walk using wpAny_loadPart' hl
    repeat (first
      | (refine wpAny_ite_false (decide_eq_false (by rw [c0]; exact Bool.false_ne_true)) ?_; wp_walk using wpAny_loadPart' hl)
      | (refine wpAny_ite_true (decide_eq_true c1) ?_; wp_walk using wpAny_loadPart' hl))
    exact ⟨_, rfl, h⟩
theorem smN {H : Hp} {p : Addr} {o : HO} (h : H p = none) : Same H (upd H p o) := fun b x e => by
  rw [upd_ne (ne_of_none e h)]
  exact e
section
variable {X : Cx}
/-- t * k -/
def rRepS1 : R2 := fun x y H Q => ∃ l k xs, x = .ref l ∧ y = .int k ∧ H l = some (.tup xs) ∧ xs ≠ [] ∧ 1 ≤ k ∧ k ≤ 1000 ∧ xs.length ≤ 1000 ∧ ∀ p H', Same H H' → H' p = some (.tup (List.replicate k.toNat xs).flatten) → Q (.ref p) H'
theorem op_repS1 : OpR X (binaryOp .Mult) rRepS1 := by
  intro pins s σ H x y v u Q I rx ry h
  obtain ⟨l, k, xs, rfl, rfl, hT, hne, h1, h2, hz, q⟩ := h
  by_cases e : k = 1
  · subst e
    cases rx
    obtain ⟨t, rfl⟩ := ry
    obtain ⟨its, r, ⟨⟨cls, dd, data, sl⟩, ho, hc, n, hd⟩, hs⟩ := I.tuple (SqT.of hT)
    simp only at hc hd
    subst hc hd
    refine wpAny_binaryOp_repeat_ref (T := "tuple") (U := "int") (by decide) ⟨_, ho, rfl⟩ (fun s' => typeIs_int s' 1 t) noFill_tuple_mul F.fills_int_mul F.slot_int_rmul repeat_tuple F.slot_int_index.lookup
      (call_meets F.slot_int_rmul (typeIs_int s 1 t) F.entry_int_rmul (F.args_int_rmul_2 _ _) (int_rmul_tuple 1 t l its.toArray n dd sl)
        ⟨ho, rfl, ⟨_, ho, rfl⟩, call_meets F.slot_tuple_mul ⟨_, ho, rfl⟩ F.entry_tuple_mul (F.args_tuple_mul_2 _ _) (tuple_mul1 l its.toArray n dd sl t (by simp)) ⟨ho, ?_⟩⟩)
    refine ⟨.ref l, H, I, rfl, q l H (Same.refl H) ?_⟩
    rw [hT]
    simp
  · exact op_repT pins s σ H _ _ v u Q I rx ry ⟨l, k, xs, rfl, rfl, SqT.of hT, hne, by omega, h2, hz, fun p np => q p _ (smN np) upd_same⟩
/-- t + u -/
def rCatS : R2 := fun x y H Q => ∃ a b xs ys, x = .ref a ∧ y = .ref b ∧ H a = some (.tup xs) ∧ H b = some (.tup ys) ∧ xs.length + ys.length ≤ 1000 ∧ ∀ p H', Same H H' → H' p = some (.tup (xs ++ ys)) → Q (.ref p) H'
theorem op_catS : OpR X (binaryOp .Add) rCatS := by
  intro pins s σ H x y v u Q I rx ry h
  obtain ⟨a, b, xs, ys, rfl, rfl, ha, hb, hz, q⟩ := h
  refine op_catA pins s σ H _ _ v u Q I rx ry ⟨a, b, xs, ys, rfl, rfl, SqT.of ha, SqT.of hb, sz (by omega), fun e => q b H (Same.refl H) ?_, fun _ e => q a H (Same.refl H) ?_, fun _ _ p np => q p _ (smN np) upd_same⟩
  · rw [hb, e]; rfl
  · rw [ha, e, List.append_nil]
/-- t[lo:hi] -/
def rSlS : V → Option Int → Option Int → Hp → VK → Prop := fun x lo hi H Q => ∃ a xs, x = .ref a ∧ H a = some (.tup xs) ∧ ∀ p H', Same H H' → H' p = some (.tup (cutV xs lo hi)) → Q (.ref p) H'
theorem sl_tupS : SlR X rSlS := by
  intro pins s σ H x v vl vu lo hi sl Q I rx hs pl pu h
  obtain ⟨a, xs, rfl, ha, q⟩ := h
  refine sl_tupA pins s σ H _ v vl vu lo hi sl Q I rx hs pl pu ⟨a, xs, rfl, SqT.of ha, fun hw => q a H (Same.refl H) ?_, fun _ p np => q p _ (smN np) upd_same⟩
  rw [ha]
  unfold cutV
  rw [hw.1, hw.2, List.drop_zero, Nat.sub_zero, List.take_length]
end
theorem cut_lo {xs : List V} {m : Nat} (h : m ≤ xs.length) : cutV xs none (some (m : Int)) = xs.take m := by
  unfold cutV
  rw [HT.sIx_none, HT.sIx_nat, List.drop_zero, Nat.sub_zero, Nat.min_eq_left h]
theorem cut_hi {xs : List V} {m : Nat} (h : m ≤ xs.length) : cutV xs (some (m : Int)) none = xs.drop m := by
  unfold cutV
  rw [HT.sIx_none, HT.sIx_nat, Nat.min_eq_left h, List.take_of_length_le (by rw [List.length_drop]; omega)]
theorem set_cut {xs : List V} {m : Nat} {v : V} (h : m < xs.length) : xs.take m ++ [v] ++ xs.drop (m + 1) = xs.set m v := by
  rw [List.set_eq_take_append_cons_drop, if_pos h, List.append_assoc]
  rfl
end Rt
namespace Rt
open PySem PySem.Spec PyProof.Rows L2
def topS (i : Nat) : Stmt := PySem.Challenge.pw_rightage_k14_tables_put_together.main.body.getD i (.Pass ⟨0, 0, 0, 0⟩)
abbrev s_is_number : Stmt := topS 4
theorem sc_is_number : FnScope ["thing"] ["thing"] (defScope s_is_number) := ⟨rfl, rfl, rfl, by decide +kernel, rfl, by decide +kernel, by decide +kernel⟩
abbrev s_is_number_from : Stmt := topS 5
theorem sc_is_number_from : FnScope ["thing", "low", "high"] ["thing", "low", "high"] (defScope s_is_number_from) := ⟨rfl, rfl, rfl, by decide +kernel, rfl, by decide +kernel, by decide +kernel⟩
abbrev s_is_row : Stmt := topS 6
theorem sc_is_row : FnScope ["thing", "fewest", "most"] ["thing", "fewest", "most"] (defScope s_is_row) := ⟨rfl, rfl, rfl, by decide +kernel, rfl, by decide +kernel, by decide +kernel⟩
abbrev s_place_of : Stmt := topS 8
theorem sc_place_of : FnScope ["world", "number"] ["world", "number"] (defScope s_place_of) := ⟨rfl, rfl, rfl, by decide +kernel, rfl, by decide +kernel, by decide +kernel⟩
abbrev s_is_table : Stmt := topS 10
theorem sc_is_table : FnScope ["world", "thing", "span", "kinds", "sources", "ways", "rows", "place", "row"] ["world", "thing"] (defScope s_is_table) := ⟨rfl, rfl, rfl, by decide +kernel, rfl, by decide +kernel, by decide +kernel⟩
abbrev s_is_age_row : Stmt := topS 11
theorem sc_is_age_row : FnScope ["world", "place", "row", "cell", "ahead", "behind"] ["world", "place", "row"] (defScope s_is_age_row) := ⟨rfl, rfl, rfl, by decide +kernel, rfl, by decide +kernel, by decide +kernel⟩
abbrev s_is_cell : Stmt := topS 12
theorem sc_is_cell : FnScope ["world", "place", "cell"] ["world", "place", "cell"] (defScope s_is_cell) := ⟨rfl, rfl, rfl, by decide +kernel, rfl, by decide +kernel, by decide +kernel⟩
abbrev s_is_above : Stmt := topS 13
theorem sc_is_above : FnScope ["one", "other"] ["one", "other"] (defScope s_is_above) := ⟨rfl, rfl, rfl, by decide +kernel, rfl, by decide +kernel, by decide +kernel⟩
abbrev s_has : Stmt := topS 14
theorem sc_has : FnScope ["world", "table", "kind", "origin", "age", "cell"] ["world", "table", "kind", "origin", "age"] (defScope s_has) := ⟨rfl, rfl, rfl, by decide +kernel, rfl, by decide +kernel, by decide +kernel⟩
abbrev s_both : Stmt := topS 15
theorem sc_both : FnScope ["world", "one", "other"] ["world", "one", "other"] (defScope s_both) := ⟨rfl, rfl, rfl, by decide +kernel, rfl, by decide +kernel, by decide +kernel⟩
abbrev s_either : Stmt := topS 16
theorem sc_either : FnScope ["world", "one", "other"] ["world", "one", "other"] (defScope s_either) := ⟨rfl, rfl, rfl, by decide +kernel, rfl, by decide +kernel, by decide +kernel⟩
abbrev s_higher_cell : Stmt := topS 17
theorem sc_higher_cell : FnScope ["one", "other"] ["one", "other"] (defScope s_higher_cell) := ⟨rfl, rfl, rfl, by decide +kernel, rfl, by decide +kernel, by decide +kernel⟩
abbrev s_lower_cell : Stmt := topS 18
theorem sc_lower_cell : FnScope ["one", "other"] ["one", "other"] (defScope s_lower_cell) := ⟨rfl, rfl, rfl, by decide +kernel, rfl, by decide +kernel, by decide +kernel⟩
abbrev s_cell_by_cell : Stmt := topS 19
theorem sc_cell_by_cell : FnScope ["choose", "one", "other", "rows", "besides", "row", "beside"] ["choose", "one", "other"] (defScope s_cell_by_cell) := ⟨rfl, rfl, rfl, by decide +kernel, rfl, by decide +kernel, by decide +kernel⟩
abbrev s_rows_by_cell : Stmt := topS 20
theorem sc_rows_by_cell : FnScope ["choose", "row", "beside", "cell", "counter"] ["choose", "row", "beside"] (defScope s_rows_by_cell) := ⟨rfl, rfl, rfl, by decide +kernel, rfl, by decide +kernel, by decide +kernel⟩
abbrev s_law_pool : Stmt := topS 22
theorem sc_law_pool : FnScope ["_law_script", "_law_great", "_law_cell"] ["_law_script"] (defScope s_law_pool) := ⟨rfl, rfl, rfl, by decide +kernel, rfl, by decide +kernel, by decide +kernel⟩
abbrev s_law_draw : Stmt := topS 23
theorem sc_law_draw : FnScope ["_law_pool_here", "_law_many", "_law_cell"] ["_law_pool_here", "_law_many"] (defScope s_law_draw) := ⟨rfl, rfl, rfl, by decide +kernel, rfl, by decide +kernel, by decide +kernel⟩
abbrev s_law_any : Stmt := topS 24
theorem sc_law_any : FnScope ["_law_pool_here", "_law_some"] ["_law_pool_here", "_law_some"] (defScope s_law_any) := ⟨rfl, rfl, rfl, by decide +kernel, rfl, by decide +kernel, by decide +kernel⟩
abbrev s_law_same : Stmt := topS 25
theorem sc_law_same : FnScope ["_law_found", "_law_due"] ["_law_found", "_law_due"] (defScope s_law_same) := ⟨rfl, rfl, rfl, by decide +kernel, rfl, by decide +kernel, by decide +kernel⟩
abbrev s_law_way : Stmt := topS 26
theorem sc_law_way : FnScope ["_law_pool_here", "_law_size", "_law_names", "_law_wide", "_law_parts", "_law_many", "_law_turn", "_law_least", "_law_more", "_law_hours", "_law_keeps", "_law_place"] ["_law_pool_here", "_law_size", "_law_names", "_law_wide"] (defScope s_law_way) := ⟨rfl, rfl, rfl, by decide +kernel, rfl, by decide +kernel, by decide +kernel⟩
abbrev s_law_world : Stmt := topS 27
theorem sc_law_world : FnScope ["_law_pool_here", "_law_wide", "_law_size", "_law_names", "_law_sources", "_law_turn", "_law_since", "_law_source", "_law_ways"] ["_law_pool_here", "_law_wide"] (defScope s_law_world) := ⟨rfl, rfl, rfl, by decide +kernel, rfl, by decide +kernel, by decide +kernel⟩
abbrev s_law_origin : Stmt := topS 28
theorem sc_law_origin : FnScope ["_law_pool_here", "_law_size", "_law_place", "_law_peaks", "_law_least", "_law_far", "_law_peak"] ["_law_pool_here", "_law_size", "_law_place", "_law_peaks"] (defScope s_law_origin) := ⟨rfl, rfl, rfl, by decide +kernel, rfl, by decide +kernel, by decide +kernel⟩
abbrev s_law_stair : Stmt := topS 29
theorem sc_law_stair : FnScope ["_law_pool_here", "_law_size", "_law_place", "_law_peaks", "_law_found", "_law_turn", "_law_number", "_law_begin", "_law_age"] ["_law_pool_here", "_law_size", "_law_place", "_law_peaks"] (defScope s_law_stair) := ⟨rfl, rfl, rfl, by decide +kernel, rfl, by decide +kernel, by decide +kernel⟩
abbrev s_law_table : Stmt := topS 30
theorem sc_law_table : FnScope ["_law_pool_here", "_law_world_here", "_law_peaks", "_law_size", "_law_kind", "_law_place"] ["_law_pool_here", "_law_world_here", "_law_peaks"] (defScope s_law_table) := ⟨rfl, rfl, rfl, by decide +kernel, rfl, by decide +kernel, by decide +kernel⟩
abbrev s_law_empty : Stmt := topS 31
theorem sc_law_empty : FnScope ["_law_world_here"] ["_law_world_here"] (defScope s_law_empty) := ⟨rfl, rfl, rfl, by decide +kernel, rfl, by decide +kernel, by decide +kernel⟩
abbrev s_law_stands : Stmt := topS 32
theorem sc_law_stands : FnScope ["_law_world_here", "_law_sheet", "_law_kind", "_law_place", "_law_age"] ["_law_world_here", "_law_sheet", "_law_kind", "_law_place", "_law_age"] (defScope s_law_stands) := ⟨rfl, rfl, rfl, by decide +kernel, rfl, by decide +kernel, by decide +kernel⟩
abbrev s_law_has : Stmt := topS 33
theorem sc_law_has : FnScope ["_law_world_here", "_law_sheet", "_law_kind", "_law_origin_here", "_law_age", "_law_number"] ["_law_world_here", "_law_sheet", "_law_kind", "_law_origin_here", "_law_age"] (defScope s_law_has) := ⟨rfl, rfl, rfl, by decide +kernel, rfl, by decide +kernel, by decide +kernel⟩
abbrev s_law_mixed : Stmt := topS 34
theorem sc_law_mixed : FnScope ["_law_one", "_law_other", "_law_is_lesser", "_law_found", "_law_row", "_law_more", "_law_stairs", "_law_left", "_law_right", "_law_stair_here", "_law_a", "_law_b", "_law_some", "_law_number"] ["_law_one", "_law_other", "_law_is_lesser"] (defScope s_law_mixed) := ⟨rfl, rfl, rfl, by decide +kernel, rfl, by decide +kernel, by decide +kernel⟩
abbrev s_law : Stmt := topS 35
theorem sc_law : FnScope ["_law_script", "_law_pool_here", "_law_turn", "_law_world_here", "_law_one", "_law_other", "_law_ahead", "_law_less", "_law_more", "_law_k", "_law_kind", "_law_age", "_law_origin_here", "_law_had", "_law_due", "_law_sheet"] ["_law_script"] (defScope s_law) := ⟨rfl, rfl, rfl, by decide +kernel, rfl, by decide +kernel, by decide +kernel⟩
theorem sm_new {H : Hp} {p : Addr} {o : HO} (h : H p = none) : Same H (upd H p o) := fun b x e => by
  rw [upd_ne (ne_of_none e h)]
  exact e
theorem sm_mut {H H' : Hp} {p : Addr} {o : HO} (e : Same H H') (h : H p = none) : Same H (upd H' p o) := fun b x z => by
  rw [upd_ne (ne_of_none z h)]
  exact e b x z
theorem ne_of_some {H : Hp} {p q : Addr} {o : HO} (h : H p = some o) (n : H q = none) : q ≠ p := fun e => by
  rw [e, h] at n
  cases n
theorem ifSet {t : TT} {te : TE} {i : Nat} {D : Ends} {σ : L2.St} {H : Hp} (hh : ∀ N : L2.St → Hp → Prop, (∀ y : Int, N (σ.set i (some (.int y))) H) → t σ H fun b H1 => if b = true then te σ H1 (fun v H2 => N (σ.set i (some v)) H2) else N σ H1)
    (q : ∀ y : Int, D.nx (σ.set i (some (.int y))) H) : tIfS t (tAsg te (gName i)) tNext D σ H := hh D.nx q
theorem asgC {v : V} {i : Nat} {D : Ends} {σ : L2.St} {H : Hp} (q : D.nx (σ.set i (some v)) H) : tAsg (tC v) (gName i) D σ H := q
section
variable {P : Program} {w : World} {K : PySem.W.Frag} {mg : Str → Option Value} {base : Heap}
def spDraws (K : PySem.W.Frag) : Sp := fun vs H Q _ => ∃ (a : Addr) (ns : List Int), vs = [.ref a] ∧ SqL K H a (ns.map V.int) ∧ ns.length ≤ 63 ∧
  ∀ g H', Same H H' → Fu g 1000000 H' → Q (.ref g.d) H'
theorem ok_pool {f : Addr} {fd : FuncData} {k : Nat} (F : Fun K "_law_pool" "_law_pool" s_law_pool f fd) : FnOk P w K mg base CX0 (k + 1) f fd ["_law_script"] (spDraws K) := by
  refine F.ok sc_law_pool (fun vs H Q E h => ?_) (fun cdv A outer s H vs Q E hr h => ?_)
  · obtain ⟨a, ns, rfl, _⟩ := h
    rfl
  · obtain ⟨a, ns, rfl, hS, hn, q⟩ := h
    refine ⟨_, (pss_cons (ps_setLc (i := 1) (own := [("_law_cell", 2)]) (g := (gName 2)) rfl sc_law_pool.nd rfl rfl (sw_true rfl rfl rfl (by decide +kernel)) (pi_list (pv 0)) (blkOk_by (own := [("_law_cell", 2)]) (N := ["_law_script", "_law_great", "_law_cell"]) (sc := defScope s_law_pool) (by decide +kernel)) (fun _ _ _ _ _ => (pg_name (i := 2) sc_law_pool.nd rfl (.inl rfl))) (fun _ _ _ _ _ => (pts_one (pt_cmpR op_ge (pv 2) (pe_op op_powL pe_int pe_int) (nomark _)))) (fun _ _ _ _ _ => (pv 2)))
  (pss_one (ps_ret (pe_lstL (pa_cons (pv 1) (pa_cons (pe_lc (own := [("_law_cell", 2)]) (g := (gName 2)) rfl sc_law_pool.nd (pi_list (pv 0)) (blkOk_by (own := [("_law_cell", 2)]) (N := ["_law_script", "_law_great", "_law_cell"]) (sc := defScope s_law_pool) (by decide +kernel)) (fun _ _ _ _ _ => (pg_name (i := 2) sc_law_pool.nd rfl (.inl rfl))) (fun _ _ _ _ _ => (pts_one (pt_cmpR op_lt (pv 2) (pe_op op_powL pe_int pe_int) (nomark _)))) (fun _ _ _ _ _ => (pv 2))) (pa_cons pe_int (pa_cons pe_int pa_nil)))))))), ?_⟩
    have ent : ∀ {i : Nat} {x : V}, (ns.map V.int)[i]? = some x → ∃ z, x = V.int z := fun {i x} hx => by
      obtain ⟨z, _, e⟩ := List.mem_map.mp (List.mem_of_getElem? hx)
      exact ⟨z, e.symm⟩
    refine ⟨.ref a, rfl, a, rfl, ⟨_, hS⟩, fun c nc => ?_⟩
    refine lc_list (K := K) (a := a) (xs := ns.map V.int) (fun i H' => Same H H' ∧ ∃ rs : List Int, H' c = some (.lst (rs.map V.int)) ∧ rs.length ≤ i) ⟨sm_new nc, [], upd_same, Nat.le_refl _⟩ (fun i H' _ h => h.1.seq hS) (fun i x H' hx h => ?_) (fun H1 h => ?_)
    · obtain ⟨sm, rs, eD, er⟩ := h
      obtain ⟨z, rfl⟩ := ent hx
      have hi : i < (ns.map V.int).length := (List.getElem?_eq_some_iff.mp hx).1
      rw [List.length_map] at hi
      refine ⟨rfl, .int z, rfl, 10, 18, rfl, rfl, by decide, by decide, by decide, fun y ey => ⟨z, y, rfl, rfl, _, rfl, ite2 (fun e => ?_) (fun e => ⟨sm, rs, eD, by omega⟩)⟩⟩
      refine ⟨.int z, rfl, _, eD, by rw [List.length_map]; exact szl (by omega), sm_mut sm nc, rs ++ [z], ?_, ?_⟩
      · rw [upd_same, List.map_append]; rfl
      · rw [List.length_append]; simp; omega
    obtain ⟨s1, gs, eg, lg⟩ := h
    rw [List.length_map] at lg
    refine ⟨.ref c, rfl, .ref a, rfl, a, rfl, ⟨_, s1.seq hS⟩, fun D nD => ?_⟩
    have dn : D ≠ c := ne_of_some eg nD
    refine lc_list (K := K) (a := a) (xs := ns.map V.int) (fun i H' => Same H1 H' ∧ ∃ rs : List Int, H' D = some (.lst (rs.map V.int)) ∧ rs.length ≤ i) ⟨sm_new nD, [], upd_same, Nat.le_refl _⟩ (fun i H' _ h => h.1.seq (s1.seq hS)) (fun i x H' hx h => ?_) (fun H2 h => ?_)
    · obtain ⟨sm, rs, eD, er⟩ := h
      obtain ⟨z, rfl⟩ := ent hx
      have hi : i < (ns.map V.int).length := (List.getElem?_eq_some_iff.mp hx).1
      rw [List.length_map] at hi
      refine ⟨rfl, .int z, rfl, 10, 18, rfl, rfl, by decide, by decide, by decide, fun y ey => ⟨z, y, rfl, rfl, _, rfl, ite2 (fun e => ?_) (fun e => ⟨sm, rs, eD, by omega⟩)⟩⟩
      refine ⟨.int z, rfl, _, eD, by rw [List.length_map]; exact szl (by omega), sm_mut sm nD, rs ++ [z], ?_, ?_⟩
      · rw [upd_same, List.map_append]; rfl
      · rw [List.length_append]; simp; omega
    obtain ⟨s2, rs, er, lr⟩ := h
    rw [List.length_map] at lr
    refine ⟨sz (n := 4) (by decide), fun d H3 nd eH3 => ?_⟩
    have eg2 := s2 _ _ eg
    subst eH3
    exact q ⟨d, D, c, 0⟩ _ ((s1.trans s2).trans (sm_new nd)) ⟨0, ⟨⟨5, upd_same, by decide, by decide⟩, ⟨rs, sm_new nd _ _ er, by omega⟩, ⟨gs, sm_new nd _ _ eg2, by omega⟩, ne_of_some er nd, ne_of_some eg2 nd, dn, by decide⟩, by decide⟩
def spNext : Sp := fun vs H Q _ => ∃ (g : Gd) (B : Nat) (b : Int), vs = [.ref g.d, .int b] ∧ Fu g B H ∧ 1 ≤ B ∧ 0 < b ∧ b < 2 ^ 60 ∧
  ∀ v H', 0 ≤ v → v < b → Fu g (B - 1) H' → Kp g H H' → Q (.int v) H'
theorem ok_draw {f : Addr} {fd : FuncData} {k : Nat} (F : Fun K "_law_draw" "_law_draw" s_law_draw f fd) (m_len : mg "len" = none) : FnOk P w K mg base CX0 (k + 1) f fd ["_law_pool_here", "_law_many"] spNext := by
  refine F.ok sc_law_draw (fun vs H Q E h => ?_) (fun cdv A outer s H vs Q E hr h => ?_)
  · obtain ⟨g, B, b, rfl, _⟩ := h
    rfl
  · obtain ⟨g, B, b, rfl, ⟨t, D, hB⟩, hB1, hb0, hb, q⟩ := h
    obtain ⟨a, hd, a0, a1⟩ := D.hd
    obtain ⟨cs, hc, ec⟩ := D.hc
    obtain ⟨gs, hg, eg⟩ := D.hr
    have t0 := D.t0
    refine ⟨_, (pss_cons (ps_if (pt_cmpR op_gt (pe_callB call_len (by rfl) m_len (by decide +kernel) (pa_cons (pe_ix ix_list (pv 0) pe_int (fun _ _ => rfl)) pa_nil)) pe_int (nomark _))
    (pss_cons (ps_set (i := 2) sc_law_draw.nd rfl (.inl rfl) (pe_ix ix_list (pe_ix ix_list (pv 0) pe_int (fun _ _ => rfl)) pe_int (fun _ _ => rfl)))
  (pss_cons (ps_asg (pe_op op_divL (pv 2) (pv 1)) (pg_sub (pe_ix ix_list (pv 0) pe_int (fun _ _ => rfl)) pe_int set_listL))
  (pss_cons (ps_if (pt_cmpR op_eq (pe_op op_divL (pv 2) (pv 1)) pe_int (nomark _))
    (pss_one (ps_expr (pe_bm PySem.F.plainAttrs_list PySem.F.slot_list_pop PySem.F.type_list_pop mt_popAt (pe_ix ix_list (pv 0) pe_int (fun _ _ => rfl)) (pa_cons pe_int pa_nil))))
    pss_nil)
  (pss_one (ps_ret (pe_op op_modL (pv 2) (pv 1)))))))
    pss_nil)
  (pss_cons (ps_asg (pe_op op_addL (pe_ix ix_list (pv 0) pe_int (fun _ _ => rfl)) pe_int) (pg_sub (pv 0) pe_int set_listL))
  (pss_cons (ps_set (i := 2) sc_law_draw.nd rfl (.inl rfl) pe_int)
  (pss_cons (ps_if (pt_cmpR op_gt (pe_callB call_len (by rfl) m_len (by decide +kernel) (pa_cons (pe_ix ix_list (pv 0) pe_int (fun _ _ => rfl)) pa_nil)) pe_int (nomark _))
    (pss_one (ps_set (i := 2) sc_law_draw.nd rfl (.inl rfl) (pe_ix ix_list (pe_ix ix_list (pv 0) pe_int (fun _ _ => rfl)) (pe_op op_modL (pe_ix ix_list (pv 0) pe_int (fun _ _ => rfl)) (pe_callB call_len (by rfl) m_len (by decide +kernel) (pa_cons (pe_ix ix_list (pv 0) pe_int (fun _ _ => rfl)) pa_nil))) (fun _ _ => rfl))))
    pss_nil)
  (pss_cons (ps_set (i := 2) sc_law_draw.nd rfl (.inl rfl) (pe_op op_mulL (pe_op op_modL (pv 2) pe_int) (pe_op op_addL (pe_op op_mulL (pe_ix ix_list (pv 0) pe_int (fun _ _ => rfl)) (pe_ix ix_list (pv 0) pe_int (fun _ _ => rfl))) pe_int)))
  (pss_cons (ps_asg (pe_op op_modL (pe_op op_addL (pe_op op_addL (pe_op op_mulL (pe_ix ix_list (pv 0) pe_int (fun _ _ => rfl)) pe_int) (pv 2)) (pe_op op_mulL pe_int (pe_ix ix_list (pv 0) pe_int (fun _ _ => rfl)))) pe_int) (pg_sub (pv 0) pe_int set_listL))
  (pss_one (ps_ret (pe_op op_modL (pe_op op_divL (pe_op op_modL (pe_op op_powL (pe_ix ix_list (pv 0) pe_int (fun _ _ => rfl)) pe_int) pe_int) pe_int) (pv 1)))))))))), ?_⟩
    refine ⟨.ref g.d, rfl, g.d, _, 0, _, rfl, rfl, SqL.of hd, rfl, .ref g.r, gs.length, rfl, .inl ⟨_, SqL.of hg, (List.length_map ..).symm⟩, (gs.length : Int), 0, rfl, rfl, _, rfl, ite2 (fun e => ?_) (fun e => ?_)⟩
    · -- a digit of a great cell
      have e : 0 < gs.length := by have := of_decide_eq_true e; omega
      obtain ⟨x, gr, rfl⟩ : ∃ x gr, gs = x :: gr := by
        cases gs with
        | nil => exact absurd e (by decide)
        | cons x gr => exact ⟨x, gr, rfl⟩
      have h0 : atI ((x :: gr).map V.int) 0 = some (.int x) := atI_nat (j := 0) rfl
      refine ⟨.ref g.d, rfl, g.d, _, 0, _, rfl, rfl, SqL.of hd, rfl, g.r, _, 0, _, rfl, rfl, SqL.of hg, h0, ?_⟩
      refine ⟨.int x, rfl, .int b, rfl, x, b, rfl, rfl, wide_div (b := 60) hb0 (by omega) (by decide) (by decide), fun z ez => ?_⟩
      refine ⟨.ref g.d, rfl, g.d, _, 0, _, rfl, rfl, SqL.of hd, rfl, g.r, _, 0, 0, rfl, rfl, hg, ixN_in (by decide) (by rw [List.length_map]; simp), fun H1 eH1 => ?_⟩
      have eH1 : H1 = upd H g.r (.lst ((z :: gr).map V.int)) := eH1
      have hg1 : H1 g.r = some (.lst ((z :: gr).map V.int)) := by rw [eH1]; exact upd_same
      have hd1 : H1 g.d = some (.lst [.ref g.r, .ref g.c, .int a, .int t]) := by rw [eH1, upd_ne D.dr]; exact hd
      have hc1 : H1 g.c = some (.lst (cs.map V.int)) := by rw [eH1, upd_ne D.cr]; exact hc
      have K1 : Kp g H H1 := fun p o h1 h2 e => by rw [eH1, upd_ne h2]; exact e
      have D1 : Dr g t H1 := ⟨⟨a, hd1, a0, a1⟩, ⟨cs, hc1, ec⟩, ⟨z :: gr, hg1, eg⟩, D.dc, D.dr, D.cr, t0⟩
      refine ⟨.int x, rfl, .int b, rfl, x, b, rfl, rfl, wide_div (b := 60) hb0 (by omega) (by decide) (by decide), fun z2 ez2 => ⟨rfl, _, rfl, ite2 (fun e => ?_) (fun e => ?_)⟩⟩
      · refine ⟨.ref g.d, rfl, g.d, _, 0, _, rfl, rfl, SqL.of hd1, rfl, .inl ⟨rfl, _, SqL.of hg1⟩, g.r, _, 0, 0, _, rfl, rfl, hg1, by decide, by decide, (ixN_seq (ixN_in (n := ((z :: gr).map V.int).length) (i := 0) (by decide) (by rw [List.length_map]; simp))).1, rfl, ?_⟩
        refine ⟨.int x, rfl, .int b, rfl, x, b, rfl, rfl, hb0, fun v ev v0 v1 => ?_⟩
        refine q v _ v0 v1 ⟨t, ⟨⟨a, ?_, a0, a1⟩, ⟨cs, ?_, ec⟩, ⟨gr, upd_same, by have : gr.length + 1 ≤ 63 := eg; omega⟩, D.dc, D.dr, D.cr, t0⟩, by omega⟩ (fun p o h1 h2 e => ?_)
        · rw [upd_ne D.dr]; exact hd1
        · rw [upd_ne D.cr]; exact hc1
        · rw [upd_ne h2]; exact K1 p o h1 h2 e
      · exact ⟨.int x, rfl, .int b, rfl, x, b, rfl, rfl, hb0, fun v ev v0 v1 => q v _ v0 v1 ⟨t, D1, by omega⟩ K1⟩
    · -- a mixed one
      refine ⟨.ref g.d, rfl, g.d, _, 3, _, rfl, rfl, SqL.of hd, rfl, t, 1, rfl, rfl, fun t1 et1 => ⟨.ref g.d, rfl, g.d, _, 3, 3, rfl, rfl, hd, rfl, fun H1 eH1 => ?_⟩⟩
      have eH1 : H1 = upd H g.d (.lst [.ref g.r, .ref g.c, .int a, .int t1]) := eH1
      have hd1 : H1 g.d = some (.lst [.ref g.r, .ref g.c, .int a, .int t1]) := by rw [eH1]; exact upd_same
      have hc1 : H1 g.c = some (.lst (cs.map V.int)) := by rw [eH1, upd_ne D.dc.symm]; exact hc
      have hg1 : H1 g.r = some (.lst (gs.map V.int)) := by rw [eH1, upd_ne D.dr.symm]; exact hg
      have K1 : Kp g H H1 := fun p o h1 h2 e => by rw [eH1, upd_ne h1]; exact e
      dsimp only [tSeq]
      refine asgC ?_
      dsimp only
      refine ifSet (fun N n => ?_) (fun y => ?_)
      · refine ⟨.ref g.d, rfl, g.d, _, 1, _, rfl, rfl, SqL.of hd1, rfl, .ref g.c, cs.length, rfl, .inl ⟨_, SqL.of hc1, (List.length_map ..).symm⟩, (cs.length : Int), 0, rfl, rfl, _, rfl, ite2 (fun e => ?_) (fun e => n 0)⟩
        have e : 0 < cs.length := by have := of_decide_eq_true e; omega
        refine ⟨.ref g.d, rfl, g.d, _, 1, _, rfl, rfl, SqL.of hd1, rfl, .ref g.d, rfl, g.d, _, 3, _, rfl, rfl, SqL.of hd1, rfl, .ref g.d, rfl, g.d, _, 1, _, rfl, rfl, SqL.of hd1, rfl, .ref g.c, cs.length, rfl, .inl ⟨_, SqL.of hc1, (List.length_map ..).symm⟩, t1, (cs.length : Int), rfl, rfl, by omega, fun sp esp sp0 sp1 => ?_⟩
        obtain ⟨cv, hcv, cm, _⟩ := atI_in (xs := cs.map V.int) (i := sp) sp0 (by rw [List.length_map]; exact sp1)
        obtain ⟨y, _, rfl⟩ := List.mem_map.mp cm
        exact ⟨g.c, _, sp, _, rfl, rfl, SqL.of hc1, hcv, n y⟩
      have htt0 : 0 ≤ t1 * t1 := Int.mul_nonneg (by omega) (by omega)
      have htt1 : t1 * t1 ≤ 1000000 * 1000000 := Int.mul_le_mul (by omega) (by omega) (by omega) (by decide)
      refine ⟨.int y, rfl, y, 2147483629, rfl, rfl, by decide, fun y1 ey1 y10 y11 => ⟨.ref g.d, rfl, g.d, _, 3, _, rfl, rfl, SqL.of hd1, rfl, .ref g.d, rfl, g.d, _, 3, _, rfl, rfl, SqL.of hd1, rfl, t1, t1, rfl, rfl, .inl ⟨by omega, by omega⟩, fun u1 eu1 => ⟨u1, 1, rfl, rfl, fun u2 eu2 => ⟨y1, u2, rfl, rfl, .inl ⟨by omega, by omega⟩, fun ce ece => ?_⟩⟩⟩⟩
      refine ⟨.ref g.d, rfl, g.d, _, 2, _, rfl, rfl, SqL.of hd1, rfl, a, 48271, rfl, rfl, .inl ⟨by omega, by omega⟩, fun v1 ev1 => ⟨.int ce, rfl, v1, ce, rfl, rfl, fun v2 ev2 => ⟨.ref g.d, rfl, g.d, _, 3, _, rfl, rfl, SqL.of hd1, rfl, 97, t1, rfl, rfl, .inl ⟨by decide, by decide⟩, fun v3 ev3 => ⟨v2, v3, rfl, rfl, fun v4 ev4 => ⟨v4, 2147483647, rfl, rfl, by decide, fun a2 ea2 a20 a21 => ?_⟩⟩⟩⟩⟩
      refine ⟨.ref g.d, rfl, g.d, _, 2, 2, rfl, rfl, hd1, rfl, fun H2 eH2 => ?_⟩
      have eH2 : H2 = upd H1 g.d (.lst [.ref g.r, .ref g.c, .int a2, .int t1]) := eH2
      have hd2 : H2 g.d = some (.lst [.ref g.r, .ref g.c, .int a2, .int t1]) := by rw [eH2]; exact upd_same
      have hc2 : H2 g.c = some (.lst (cs.map V.int)) := by rw [eH2, upd_ne D.dc.symm]; exact hc1
      have hg2 : H2 g.r = some (.lst (gs.map V.int)) := by rw [eH2, upd_ne D.dr.symm]; exact hg1
      have K2 : Kp g H H2 := fun p o h1 h2 e => by rw [eH2, upd_ne h1]; exact K1 p o h1 h2 e
      refine ⟨.ref g.d, rfl, g.d, _, 2, _, rfl, rfl, SqL.of hd2, rfl, a2, 5, rfl, rfl, by decide, by decide, by omega, fun w1 ew1 => ⟨w1, 2147483629, rfl, rfl, by decide, fun w2 ew2 w20 w21 => ⟨w2, 64, rfl, rfl, wide_div (b := 7) (by decide) (by decide) (by decide) (by decide), fun w3 ew3 => ⟨.int b, rfl, w3, b, rfl, rfl, hb0, fun v ev v0 v1 => ?_⟩⟩⟩⟩
      exact q v _ v0 v1 ⟨t1, ⟨⟨a2, hd2, a20, a21⟩, ⟨cs, hc2, ec⟩, ⟨gs, hg2, eg⟩, D.dc, D.dr, D.cr, by omega⟩, by omega⟩ K2
def spOne (K : PySem.W.Frag) : Sp := fun vs H Q _ => ∃ (g : Gd) (B : Nat) (x : V), vs = [.ref g.d, x] ∧ Fu g B H ∧ 1 ≤ B ∧
  ((∃ p xs, x = .ref p ∧ g.Off p ∧ H p = some (.lst xs) ∧ 0 < xs.length ∧ xs.length ≤ 1000 ∧ ∀ v H', v ∈ xs → Fu g (B - 1) H' → Kp g H H' → Q v H') ∨
   (∃ p xs, x = .ref p ∧ H p = some (.tup xs) ∧ 0 < xs.length ∧ xs.length ≤ 1000 ∧ ∀ v H', v ∈ xs → Fu g (B - 1) H' → Kp g H H' → Q v H') ∨
   (∃ p o xs, x = .ref p ∧ H p = some (.frz o (.tup xs)) ∧ 0 < xs.length ∧ xs.length ≤ 1000 ∧ ∀ v H', v ∈ xs → Fu g (B - 1) H' → Kp g H H' → Q v H'))
theorem Fu.fz {g : Gd} {B : Nat} {H H' : Hp} {p : Addr} {o : Obj} {u : HO} (h : Fu g B H) (k : Kp g H H') (e : H p = some (.frz o u)) : H' p = some (.frz o u) := by
  obtain ⟨t, a, b⟩ := h
  obtain ⟨sd, hd, _⟩ := a.hd
  obtain ⟨rs, hr, _⟩ := a.hr
  exact k p _ (fun z => by rw [z, hd] at e; cases e) (fun z => by rw [z, hr] at e; cases e) e
theorem ok_any {f : Addr} {fd : FuncData} (F : Fun K "_law_any" "_law_any" s_law_any f fd) (m_len : mg "len" = none) (C__law_draw : Cl P w K mg base 1 "_law_draw" ["_law_pool_here", "_law_many"] spNext) : FnOk P w K mg base CX0 2 f fd ["_law_pool_here", "_law_some"] (spOne K) := by
  refine F.ok sc_law_any (fun vs H Q E h => ?_) (fun cdv A outer s H vs Q E hr h => ?_)
  · obtain ⟨g, B, x, rfl, _⟩ := h
    rfl
  · obtain ⟨g, B, x, rfl, hF, hB, h⟩ := h
    refine ⟨_, (pss_one (ps_ret (pe_ix ix_seq (pv 1) (pe_cl C__law_draw (hr.mono (by omega)) (by rfl) (pa_cons (pv 0) (pa_cons (pe_callB call_len (by rfl) m_len (by decide +kernel) (pa_cons (pv 1) pa_nil)) pa_nil))) (fun _ _ => rfl)))), ?_⟩
    rcases h with ⟨p, xs, rfl, oP, hp, h0, h1, q⟩ | ⟨p, xs, rfl, hp, h0, h1, q⟩ | ⟨p, o, xs, rfl, hp, h0, h1, q⟩
    · refine ⟨.ref p, rfl, .ref g.d, rfl, .ref p, rfl, .ref p, xs.length, rfl, .inl ⟨_, SqL.of hp, rfl⟩, g, B, (xs.length : Int), rfl, hF, hB, by omega, by omega, fun i H' i0 i1 F' K' => .inl ?_⟩
      obtain ⟨v, hv, vm, _⟩ := atI_in (xs := xs) i0 i1
      exact ⟨p, xs, i, v, rfl, rfl, SqL.of (K'.off oP hp), hv, q v H' vm F' K'⟩
    · refine ⟨.ref p, rfl, .ref g.d, rfl, .ref p, rfl, .ref p, xs.length, rfl, .inr ⟨_, SqT.of hp, rfl⟩, g, B, (xs.length : Int), rfl, hF, hB, by omega, by omega, fun i H' i0 i1 F' K' => .inr (.inl ?_)⟩
      obtain ⟨v, hv, vm, _⟩ := atI_in (xs := xs) i0 i1
      exact ⟨p, xs, i, v, rfl, rfl, SqT.of (hF.tk K' p xs hp), hv, q v H' vm F' K'⟩
    · refine ⟨.ref p, rfl, .ref g.d, rfl, .ref p, rfl, .ref p, xs.length, rfl, .inr ⟨_, SqT.frz hp, rfl⟩, g, B, (xs.length : Int), rfl, hF, hB, by omega, by omega, fun i H' i0 i1 F' K' => .inr (.inl ?_)⟩
      obtain ⟨v, hv, vm, _⟩ := atI_in (xs := xs) i0 i1
      exact ⟨p, xs, i, v, rfl, rfl, SqT.frz (hF.fz K' hp), hv, q v H' vm F' K'⟩
end
end Rt
namespace Rt
open PySem PySem.Spec PyProof.Rows L2
/-- a test that is answered so, the heap as it was -/
def An (t : TT) (σ : L2.St) (H : Hp) (b : Bool) : Prop := ∀ Q : Bool → Hp → Prop, Q b H → t σ H Q
theorem ifF {t : TT} {a b : TS} {D : Ends} {σ : L2.St} {H : Hp} (h : An t σ H false) (q : b D σ H) : tIfS t a b D σ H := h _ q
theorem Fu.same {g : Gd} {B : Nat} {H H' : Hp} (f : Fu g B H) (s : Same H H') : Fu g B H' := by
  obtain ⟨t, a, b⟩ := f
  obtain ⟨sd, hd, ed⟩ := a.hd
  obtain ⟨cs, hc, ec⟩ := a.hc
  obtain ⟨rs, hr, er⟩ := a.hr
  exact ⟨t, ⟨⟨sd, s _ _ hd, ed⟩, ⟨cs, s _ _ hc, ec⟩, ⟨rs, s _ _ hr, er⟩, a.dc, a.dr, a.cr, a.t0⟩, b⟩
theorem Kp.same {g : Gd} {H H' : Hp} (s : Same H H') : Kp g H H' := fun p o _ _ h => s p o h
/-- a comprehension over a range that draws nothing and counts -/
theorem lcC {lo : Int} {n : Nat} {gt : TG} {tt : TT} {te : TE} {vs : List Nat} {σ : L2.St} {H1 : Hp} {D : Addr} {Qd : Hp → Prop} (c : Nat → Bool) (hD : H1 D = none) (hn : n ≤ 1000)
    (hs : ∀ i H, i < n → Same H1 H → ∀ (Qk : VK) (Qs : Hp → Prop), (c i = true → ∀ y, Qk y H) → (c i = false → Qs H) →
      gt (.int (lo + i)) (wipe σ vs) H fun σ2 H2 => wipe σ2 vs = wipe σ vs ∧ tt σ2 H2 fun b H3 => if b = true then te σ2 H3 Qk else Qs H3)
    (hd : ∀ H acc, Same H1 H → H D = some (.lst acc) → acc.length = (List.range n).countP c → Qd H) :
    ∃ W : Nat → Nat → Hp → Prop, (∃ m, W 0 m (upd H1 D (.lst []))) ∧ ∀ i m H, W i m H →
      ((Itr lo n).stop i H ∧ Qd H) ∨ ((Itr lo n).go i H ∧ ∃ Nx : Hp → Prop, (∀ H', Nx H' → ∃ m', m' < m ∧ W (i + 1) m' H') ∧ ∀ x H', (Itr lo n).yld i H x H' → gt x (wipe σ vs) H' fun σ2 H2 => wipe σ2 vs = wipe σ vs ∧ tt σ2 H2 fun b H3 =>
        if b = true then te σ2 H3 fun y H4 => ∃ acc, H4 D = some (.lst acc) ∧ acc.length < sizeLine ∧ Nx (upd H4 D (.lst (acc ++ [y]))) else Nx H3) := by
  refine lc_range (Pv := fun i H => i ≤ n ∧ Same H1 H ∧ ∃ acc, H D = some (.lst acc) ∧ acc.length = (List.range i).countP c) ⟨Nat.zero_le _, sm_new hD, [], upd_same, rfl⟩ (fun i H hi p => ?_) (fun H p => ?_)
  · obtain ⟨_, sm, acc, eD, el⟩ := p
    have hl : (List.range i).countP c ≤ i := by
      have := List.countP_le_length (p := c) (l := List.range i)
      rwa [List.length_range] at this
    refine hs i H hi sm _ _ (fun e y => ⟨acc, eD, szl (by omega), hi, sm_mut sm hD, acc ++ [y], upd_same, ?_⟩) (fun e => ⟨hi, sm, acc, eD, ?_⟩)
    · rw [List.range_succ, List.countP_append, List.countP_singleton, if_pos e, List.length_append, el]
      rfl
    · rw [List.range_succ, List.countP_append, List.countP_singleton, if_neg (by rw [e]; decide), el]
      rfl
  · obtain ⟨_, sm, acc, eD, el⟩ := p
    exact hd H acc sm eD el
/-- a test that is answered so, all that stood stands -/
def AnS (t : TT) (σ : L2.St) (H : Hp) (b : Bool) : Prop := ∀ Q : Bool → Hp → Prop, (∀ H', Same H H' → Q b H') → t σ H Q
theorem ifFS {t : TT} {a b : TS} {D : Ends} {σ : L2.St} {H : Hp} (h : AnS t σ H false) (q : ∀ H', Same H H' → b D σ H') : tIfS t a b D σ H := h _ q
/-- a value that is told so, the heap as it was -/
def Va (t : TE) (σ : L2.St) (H : Hp) (v : V) : Prop := ∀ Q : VK, Q v H → t σ H Q
theorem asgV {t : TE} {g : TG} {D : Ends} {σ : L2.St} {H : Hp} (v : V) (h : Va t σ H v) (q : g v σ H D.nx) : tAsg t g D σ H := h _ q
def spLaw (K : PySem.W.Frag) : Sp := fun vs H Q _ => ∃ (a : Addr) (ns : List Int), vs = [.ref a] ∧ SqL K H a (ns.map V.int) ∧ ns.length ≤ 63 ∧ ∀ H', Q (.bl true) H'
end Rt
namespace Rt
open PySem PySem.Spec PyProof.Rows L2
def Short (z : Str) : Prop := (reprText z).length ≤ 19
section
variable {P : Program} {w : World} {K : PySem.W.Frag} {mg : Str → Option Value} {base : Heap}
def spWay : Sp := fun vs H Q _ => ∃ (g : Gd) (B : Nat) (n : Int) (pn : Addr) (ks : List Str), vs = [.ref g.d, .int n, .ref pn, .bl true] ∧ Fu g B H ∧ 25 ≤ B ∧ 1 ≤ n ∧ n ≤ 6 ∧ H pn = some (.lst (ks.map V.str)) ∧ g.Off pn ∧ 1 ≤ ks.length ∧ ks.length ≤ 4 ∧ (∀ z ∈ ks, Short z) ∧
  ∀ v H', Sh 3 2000 H' v → Fu g (B - 25) H' → Kp g H H' → Q v H'
theorem ok_way {f : Addr} {fd : FuncData} (F : Fun K "_law_way" "_law_way" s_law_way f fd) (m_range : mg "range" = none) (m_tuple : mg "tuple" = none) (m_int : mg "int" = none) (m_min : mg "min" = none)
    (C__law_draw : Cl P w K mg base 1 "_law_draw" ["_law_pool_here", "_law_many"] spNext) (C__law_any : Cl P w K mg base 2 "_law_any" ["_law_pool_here", "_law_some"] (spOne K)) :
    FnOk P w K mg base CX0 3 f fd ["_law_pool_here", "_law_size", "_law_names", "_law_wide"] spWay := by
  refine F.ok sc_law_way (fun vs H Q E h => ?_) (fun cdv A outer s H vs Q E hr h => ?_)
  · obtain ⟨g, B, n, pn, ks, rfl, _⟩ := h
    rfl
  · obtain ⟨g, B, n, pn, ks, rfl, hF, hB, hn1, hn6, hpn, oN, hk1, hk4, hks, q⟩ := h
    refine ⟨_, (pss_cons (ps_set (i := 4) sc_law_way.nd rfl (.inl rfl) (pe_lstL pa_nil))
  (pss_cons (ps_set (i := 5) sc_law_way.nd rfl (.inl rfl) (pe_op op_addL pe_int (pe_cl C__law_draw (hr.mono (by omega)) (by rfl) (pa_cons (pv 0) (pa_cons pe_int pa_nil)))))
  (pss_cons (ps_for PassesOwn.never rfl (pi_range1 (by rfl) m_range (pa_cons (pv 5) pa_nil)) (pg_name (i := 6) sc_law_way.nd rfl (.inl rfl))
    (pss_cons (ps_set (i := 7) sc_law_way.nd rfl (.inl rfl) (pe_cl C__law_any (hr.mono (by omega)) (by rfl) (pa_cons (pv 0) (pa_cons (pe_lstL (pa_cons pe_int (pa_cons pe_int (pa_cons pe_int (pa_cons (pe_cl C__law_draw (hr.mono (by omega)) (by rfl) (pa_cons (pv 0) (pa_cons pe_int pa_nil))) (pa_cons (pe_ix ix_list (pe_lstL (pa_cons pe_int (pa_cons (pe_cl C__law_draw (hr.mono (by omega)) (by rfl) (pa_cons (pv 0) (pa_cons pe_int pa_nil))) pa_nil))) (pe_callTy call_int1 (by rfl) m_int (by decide +kernel) (pa_cons (pv 3) pa_nil)) (fun _ _ => rfl)) pa_nil)))))) pa_nil))))
  (pss_cons (ps_set (i := 8) sc_law_way.nd rfl (.inl rfl) (pe_cl C__law_any (hr.mono (by omega)) (by rfl) (pa_cons (pv 0) (pa_cons (pe_lstL (pa_cons pe_int (pa_cons pe_int (pa_cons pe_int (pa_cons (pe_ix ix_list (pe_lstL (pa_cons pe_int (pa_cons pe_int pa_nil))) (pe_callTy call_int1 (by rfl) m_int (by decide +kernel) (pa_cons (pv 3) pa_nil)) (fun _ _ => rfl)) pa_nil))))) pa_nil))))
  (pss_cons (ps_if (PW.pt (pw_and (pt_cmpR op_eq (pv 5) pe_int (nomark _)) (pw_and1 (pt_not (pt_val (pv 3))))))
    (pss_one (ps_set (i := 8) sc_law_way.nd rfl (.inl rfl) (pe_op op_modL (pv 8) pe_int)))
    pss_nil)
  (pss_one (ps_expr (pe_bm PySem.F.plainAttrs_list PySem.F.slot_list_append PySem.F.type_list_append mt_append (pv 4) (pa_cons (pe_tupL (pa_cons (pe_cl C__law_any (hr.mono (by omega)) (by rfl) (pa_cons (pv 0) (pa_cons (pv 2) pa_nil))) (pa_cons (pv 7) (pa_cons (pe_callB (call_min2 rfl) (by rfl) m_min (by decide +kernel) (pa_cons pe_int (pa_cons (pe_op op_addL (pv 7) (pv 8)) pa_nil))) pa_nil)))) pa_nil))))))))
  (pss_cons (ps_set (i := 9) sc_law_way.nd rfl (.inl rfl) (pe_callTy call_tuple_of (by rfl) m_tuple (by decide +kernel) (pa_cons (pe_lc (own := [("_law_place", 11)]) (g := (gName 11)) rfl sc_law_way.nd (pi_range1 (by rfl) m_range (pa_cons (pv 1) pa_nil)) (blkOk_by (own := [("_law_place", 11)]) (N := ["_law_pool_here", "_law_size", "_law_names", "_law_wide", "_law_parts", "_law_many", "_law_turn", "_law_least", "_law_more", "_law_hours", "_law_keeps", "_law_place"]) (sc := defScope s_law_way) (by decide +kernel)) (fun _ _ _ _ _ => (pg_name (i := 11) sc_law_way.nd rfl (.inl rfl))) (fun _ _ _ _ _ => (pts_one (pt_cmpR op_gt (pe_cl C__law_draw (hr.mono (by omega)) (by rfl) (pa_cons (pv 0) (pa_cons pe_int pa_nil))) pe_int (nomark _)))) (fun _ _ _ _ _ => (pv 11))) pa_nil)))
  (pss_cons (ps_set (i := 10) sc_law_way.nd rfl (.inl rfl) (pe_cl C__law_any (hr.mono (by omega)) (by rfl) (pa_cons (pv 0) (pa_cons (pe_lstL (pa_cons pe_str (pa_cons pe_str pa_nil))) pa_nil))))
  (pss_one (ps_ret (pe_tupL (pa_cons (pe_cl C__law_any (hr.mono (by omega)) (by rfl) (pa_cons (pv 0) (pa_cons (pv 2) pa_nil))) (pa_cons (pe_callTy call_tuple_of (by rfl) m_tuple (by decide +kernel) (pa_cons (pv 4) pa_nil)) (pa_cons (pv 10) (pa_cons (pv 9) (pa_cons (pe_op op_addL pe_int (pe_cl C__law_draw (hr.mono (by omega)) (by rfl) (pa_cons (pv 0) (pa_cons pe_int pa_nil)))) pa_nil))))))))))))), ?_⟩
    -- parts = []
    refine ⟨sz (n := 0) (by decide), fun pp H0 npp eH0 => ?_⟩
    have oP := hF.off npp
    have F0 : Fu g B H0 := eH0 ▸ hF.new npp
    have hpp0 : H0 pp = some (.lst []) := by rw [eH0]; exact upd_same
    have K0 : Kp g H H0 := by rw [eH0]; exact Kp.new npp
    refine ⟨.ref g.d, rfl, g, _, 3, rfl, F0, by omega, by decide, by decide, fun x1 H1 x10 x11 F1 K1 => ⟨1, x1, rfl, rfl, fun mn emn => ?_⟩⟩
    have hpp1 := K1.off oP hpp0
    refine ⟨.int mn, rfl, mn, rfl, by omega, by omega, ?_⟩
    refine for_range (n := mn.toNat) (fun i σ H' => i ≤ mn.toNat ∧ (∃ B' : Nat, B' + i * 5 = B - 1 ∧ Fu g B' H') ∧ Kp g H H' ∧ (∃ acc, H' pp = some (.lst acc) ∧ acc.length ≤ i ∧ ∀ x ∈ acc, Sh 1 70 H' x) ∧ ∃ y6 y7 y8, σ = [some (.ref g.d), some (.int n), some (.ref pn), some (.bl true), some (.ref pp), some (.int mn), y6, y7, y8, none, none, none])
      ⟨by omega, ⟨B - 1, by omega, F1⟩, K0.trans K1, ⟨[], hpp1, Nat.le_refl _, fun x h => nomatch h⟩, _, _, _, rfl⟩ (fun i σ H2 hi h => ?_) (fun σ H2 h => ?_)
    · obtain ⟨_, ⟨B', eB, F2⟩, K2, ⟨acc, hacc, la, sa⟩, y6, y7, y8, rfl⟩ := h
      have hB' : 5 ≤ B' := by omega
      -- least
      refine ⟨.ref g.d, rfl, .ref g.d, rfl, g, _, 5, rfl, F2, by omega, by decide, by decide, fun x3 H3 x30 x31 F3 K3 => ⟨.ref g.d, rfl, g, _, 21, rfl, F3, by omega, by decide, by decide, fun x4 H4 x40 x41 F4 K4 => ⟨sz (n := 2) (by decide), fun p5 H5 np5 eH5 => ⟨.bl true, rfl, .inr ⟨true, rfl, p5, _, 1, .int x4, rfl, rfl, SqL.of (at_new eH5), rfl, sz (n := 5) (by decide), fun p6 H6 np6 eH6 => ?_⟩⟩⟩⟩⟩
      have F5 : Fu g _ H5 := eH5 ▸ F4.new np5
      have K5 : Kp g H4 H5 := by rw [eH5]; exact Kp.new np5
      have F6 : Fu g _ H6 := eH6 ▸ F5.new np6
      have K6 : Kp g H5 H6 := by rw [eH6]; exact Kp.new np6
      have hp6 : H6 p6 = some (.lst [.int 0, .int 0, .int 1, .int x3, .int x4]) := by rw [eH6]; exact upd_same
      refine ⟨g, _, .ref p6, rfl, F6, by omega, .inl ⟨p6, _, rfl, F5.off np6, hp6, (show 0 < 5 by decide), (show 5 ≤ 1000 by decide), fun v H7 vm F7 K7 => ?_⟩⟩
      obtain ⟨le, rfl, le0, le1⟩ : ∃ le : Int, v = .int le ∧ 0 ≤ le ∧ le ≤ 20 := by
        simp only [List.mem_cons, List.not_mem_nil, or_false] at vm
        rcases vm with rfl | rfl | rfl | rfl | rfl
        · exact ⟨_, rfl, by decide, by decide⟩
        · exact ⟨_, rfl, by decide, by decide⟩
        · exact ⟨_, rfl, by decide, by decide⟩
        · exact ⟨_, rfl, by omega, by omega⟩
        · exact ⟨_, rfl, by omega, by omega⟩
      have K27 : Kp g H2 H7 := (((K3.trans K4).trans K5).trans K6).trans K7
      -- more
      refine ⟨.ref g.d, rfl, sz (n := 2) (by decide), fun p8 H8 np8 eH8 => ⟨.bl true, rfl, .inr ⟨true, rfl, p8, _, 1, .int 20, rfl, rfl, SqL.of (at_new eH8), rfl, sz (n := 4) (by decide), fun p9 H9 np9 eH9 => ?_⟩⟩⟩
      have F8 : Fu g _ H8 := eH8 ▸ F7.new np8
      have K8 : Kp g H7 H8 := by rw [eH8]; exact Kp.new np8
      have F9 : Fu g _ H9 := eH9 ▸ F8.new np9
      have K9 : Kp g H8 H9 := by rw [eH9]; exact Kp.new np9
      have hp9 : H9 p9 = some (.lst [.int 0, .int 1, .int 2, .int 20]) := by rw [eH9]; exact upd_same
      refine ⟨g, _, .ref p9, rfl, F9, by omega, .inl ⟨p9, _, rfl, F8.off np9, hp9, (show 0 < 4 by decide), (show 4 ≤ 1000 by decide), fun v H10 vm F10 K10 => ?_⟩⟩
      obtain ⟨mo, rfl, mo0, mo1⟩ : ∃ le : Int, v = .int le ∧ 0 ≤ le ∧ le ≤ 20 := by
        simp only [List.mem_cons, List.not_mem_nil, or_false] at vm
        rcases vm with rfl | rfl | rfl | rfl <;> exact ⟨_, rfl, by decide, by decide⟩
      have K210 : Kp g H2 H10 := ((K27.trans K8).trans K9).trans K10
      -- if many == 3 and not wide
      dsimp only [gName, tSeq, tNext]
      refine ifF (fun Q1 q1 => ?_) ?_
      · refine ⟨.int mn, rfl, rfl, _, rfl, ite2 (fun e => ?_) (fun e => q1)⟩
        exact ⟨.bl true, rfl, _, rfl, q1⟩
      -- parts.append
      have hacc10 := K210.off oP hacc
      refine ⟨.ref pp, rfl, .inl ⟨rfl, _, SqL.of hacc10⟩, ?_⟩
      refine ⟨.ref g.d, rfl, .ref pn, rfl, g, _, .ref pn, rfl, F10, by omega, .inl ⟨pn, _, rfl, oN, (K2.trans K210).off oN hpn, by rw [List.length_map]; omega, by rw [List.length_map]; omega, fun v H11 vm F11 K11 => ?_⟩⟩
      obtain ⟨kd, km, rfl⟩ := List.mem_map.mp vm
      refine ⟨.int le, rfl, .int le, rfl, .int mo, rfl, le, mo, rfl, rfl, fun z ez => ⟨20, z, rfl, sz (n := 3) (by decide), fun p12 H12 np12 eH12 => ?_⟩⟩
      have F12 : Fu g _ H12 := eH12 ▸ F11.new np12
      have K12 : Kp g H11 H12 := by rw [eH12]; exact Kp.new np12
      have hp12 : H12 p12 = some (.tup [.str kd, .int le, .int (if z < 20 then z else 20)]) := by rw [eH12]; exact upd_same
      have hacc12 := (K11.trans K12).off oP hacc10
      have K212 : Kp g H2 H12 := (K210.trans K11).trans K12
      refine ⟨pp, acc, _, rfl, rfl, hacc12, szl (by omega), ?_⟩
      have T12 : Tk H2 (upd H12 pp (.lst (acc ++ [.ref p12]))) := (F2.tk K212).trans (Tk.lst hacc12)
      refine ⟨by omega, ⟨B' - 5, by omega, (F12.mono (by omega)).upd oP⟩, ?_, ⟨acc ++ [.ref p12], upd_same, by rw [List.length_append]; simp; omega, fun x hx => ?_⟩, _, _, _, rfl⟩
      · exact ((K2.trans K212).mut npp)
      · rcases List.mem_append.mp hx with hx | hx
        · exact (sa x hx).mono T12
        · have e : x = .ref p12 := by simpa using hx
          subst e
          have h12 : upd H12 pp (.lst (acc ++ [.ref p12])) p12 = some (.tup [.str kd, .int le, .int (if z < 20 then z else 20)]) := Tk.lst hacc12 _ _ hp12
          refine (Sh.tup (k := 0) (n := 19) (m := 3) h12 (fun y hy => ?_) (by simp)).up (by decide) (by decide)
          simp only [List.mem_cons, List.not_mem_nil, or_false] at hy
          rcases hy with rfl | rfl | rfl
          · exact Sh.str (hks _ km)
          · exact Sh.int (by omega)
          · exact Sh.int (by split <;> omega)
    obtain ⟨_, ⟨B', eB, F2⟩, K2, ⟨acc, hacc, la, sa⟩, y6, y7, y8, rfl⟩ := h
    have hB' : 9 ≤ B' := by omega
    -- hours
    refine ⟨.int n, rfl, n, rfl, by omega, by omega, fun D3 nD3 => ?_⟩
    refine lcR (g := g) 1 (fun _ y => ∃ z : Int, y = V.int z ∧ z.natAbs ≤ 10) (fun _ _ => True) nD3 F2 (by omega) (by omega) (fun _ _ _ _ h => h) trivial (fun i H3 B3 hi F3 hB3 K3 Qk Qs qk qs => ?_) (fun H3 hv F3 K3 eD3 el3 _ al3 => ?_)
    · refine ⟨rfl, .ref g.d, rfl, g, B3, 3, rfl, F3, hB3, by decide, by decide, fun x H4 x0 x1 F4 K4 => ⟨x, 0, rfl, rfl, _, rfl, ite2 (fun e => ?_) (fun e => ?_)⟩⟩
      · exact ⟨_, rfl, qk _ _ F4 K4 ⟨_, rfl, by omega⟩ (fun _ _ => trivial)⟩
      · exact qs _ F4 K4 (fun _ _ => trivial)
    refine ⟨D3, hv, rfl, .inl ⟨SqL.of eD3, fun ph nph => ?_⟩⟩
    have F4 := F3.new (o := .tup hv) nph
    have K4 : Kp g H2 (upd H3 ph (.tup hv)) := K3.trans (Kp.new nph)
    have hph : upd H3 ph (.tup hv) ph = some (.tup hv) := upd_same
    generalize upd H3 ph (.tup hv) = H4 at F4 K4 hph ⊢
    -- keeps
    refine ⟨.ref g.d, rfl, sz (n := 2) (by decide), fun p7 H7 np7 eH7 => ?_⟩
    have F7 : Fu g _ H7 := eH7 ▸ F4.new np7
    have K7 : Kp g H4 H7 := by rw [eH7]; exact Kp.new np7
    have hp7 : H7 p7 = some (.lst [.str "oldest", .str "youngest"]) := by rw [eH7]; exact upd_same
    refine ⟨g, _, .ref p7, rfl, F7, by omega, .inl ⟨p7, _, rfl, F4.off np7, hp7, by decide, by decide, fun v H8 vm F8 K8 => ?_⟩⟩
    obtain ⟨kp, rfl, hkp⟩ : ∃ kp : Str, v = .str kp ∧ Short kp := by
      simp only [List.mem_cons, List.not_mem_nil, or_false] at vm
      rcases vm with rfl | rfl
      · exact ⟨_, rfl, by unfold Short; decide +kernel⟩
      · exact ⟨_, rfl, by unfold Short; decide +kernel⟩
    have K28 : Kp g H2 H8 := (K4.trans K7).trans K8
    -- the way
    refine ⟨.ref g.d, rfl, .ref pn, rfl, g, _, .ref pn, rfl, F8, by omega, .inl ⟨pn, _, rfl, oN, (K2.trans K28).off oN hpn, by rw [List.length_map]; omega, by rw [List.length_map]; omega, fun v H9 vm F9 K9 => ?_⟩⟩
    obtain ⟨kd, km, rfl⟩ := List.mem_map.mp vm
    refine ⟨.ref pp, rfl, pp, acc, rfl, .inl ⟨SqL.of ((K28.trans K9).off oP hacc), fun pt npt => ?_⟩⟩
    have F10 := F9.new (o := .tup acc) npt
    have K10 : Kp g H9 (upd H9 pt (.tup acc)) := Kp.new npt
    have hpt : upd H9 pt (.tup acc) pt = some (.tup acc) := upd_same
    generalize upd H9 pt (.tup acc) = H10 at F10 K10 hpt ⊢
    refine ⟨.str kp, rfl, .ref ph, rfl, .ref g.d, rfl, g, _, 6, rfl, F10, by omega, by decide, by decide, fun wn H11 wn0 wn1 F11 K11 => ⟨1, wn, rfl, rfl, fun wt ewt => ⟨sz (n := 5) (by decide), fun p12 H12 np12 eH12 => ?_⟩⟩⟩
    have K12 : Kp g H11 H12 := by rw [eH12]; exact Kp.new np12
    have F12 : Fu g _ H12 := eH12 ▸ F11.new np12
    have hp12 : H12 p12 = some (.tup [.str kd, .ref pt, .str kp, .ref ph, .int wt]) := by rw [eH12]; exact upd_same
    have K212 : Kp g H2 H12 := (((K28.trans K9).trans K10).trans K11).trans K12
    have T2 : Tk H2 H12 := F2.tk K212
    have T4 : Tk H4 H12 := F4.tk (((((K7.trans K8).trans K9).trans K10).trans K11).trans K12)
    have T10 : Tk H10 H12 := F10.tk (K11.trans K12)
    refine q _ _ ?_ (F12.mono (by omega)) (K2.trans K212)
    refine (Sh.tup (k := 2) (n := 300) (m := 5) hp12 (fun y hy => ?_) (by simp)).up (by decide) (by decide)
    simp only [List.mem_cons, List.not_mem_nil, or_false] at hy
    rcases hy with rfl | rfl | rfl | rfl | rfl
    · exact (Sh.str (hks _ km)).up (by decide) (by decide)
    · exact (Sh.tup (m := 3) (T10 _ _ hpt) (fun x hx => (sa x hx).mono T2) (by omega)).up (by decide) (by decide)
    · exact (Sh.str hkp).up (by decide) (by decide)
    · refine (Sh.tup (k := 0) (n := 19) (m := 6) (T4 _ _ hph) (fun x hx => ?_) (by omega)).up (by decide) (by decide)
      obtain ⟨z, rfl, hz⟩ := al3 x hx
      exact Sh.int (by omega)
    · exact (Sh.int (by omega)).up (by decide) (by decide)
end
end Rt
namespace Rt
open PySem PySem.Spec PyProof.Rows L2
/-- a drawn world: its round, its kinds (a tuple whose object is known), the rest as data -/
structure Wl (H : Hp) (p : Addr) (n : Int) (pk : Addr) (ok : Obj) (ks : List Str) (ps pw : Addr) : Prop where
  hp : H p = some (.tup [.int n, .ref pk, .ref ps, .ref pw])
  n1 : 1 ≤ n
  n6 : n ≤ 6
  hk : H pk = some (.frz ok (.tup (ks.map V.str)))
  dk : ok.dict = none
  k1 : 1 ≤ ks.length
  k4 : ks.length ≤ 4
  sk : ∀ z ∈ ks, Short z
  ss : Sh 2 2000 H (.ref ps)
  sw : Sh 4 20000 H (.ref pw)
  nd : ks.Nodup
theorem Wl.keep {g : Gd} {B : Nat} {H H' : Hp} {p : Addr} {n : Int} {pk : Addr} {ok : Obj} {ks : List Str} {ps pw : Addr} (h : Wl H p n pk ok ks ps pw) (F : Fu g B H) (k : Kp g H H') : Wl H' p n pk ok ks ps pw :=
  ⟨F.tk k _ _ h.hp, h.n1, h.n6, F.fz k h.hk, h.dk, h.k1, h.k4, h.sk, h.ss.mono (F.tk k), h.sw.mono (F.tk k), h.nd⟩
section
variable {P : Program} {w : World} {K : PySem.W.Frag} {mg : Str → Option Value} {base : Heap}
def spWorld : Sp := fun vs H Q _ => ∃ (g : Gd) (B : Nat), vs = [.ref g.d, .bl true] ∧ Fu g B H ∧ 260 ≤ B ∧
  ∀ p n pk ok ks ps pw H', Wl H' p n pk ok ks ps pw → Fu g (B - 260) H' → Kp g H H' → Q (.ref p) H'
theorem ok_world {f : Addr} {fd : FuncData} (F : Fun K "_law_world" "_law_world" s_law_world f fd) (m_range : mg "range" = none) (m_tuple : mg "tuple" = none) (m_int : mg "int" = none)
    (C__law_draw : Cl P w K mg base 1 "_law_draw" ["_law_pool_here", "_law_many"] spNext) (C__law_any : Cl P w K mg base 2 "_law_any" ["_law_pool_here", "_law_some"] (spOne K))
    (C__law_way : Cl P w K mg base 3 "_law_way" ["_law_pool_here", "_law_size", "_law_names", "_law_wide"] spWay) :
    FnOk P w K mg base CX0 4 f fd ["_law_pool_here", "_law_wide"] spWorld := by
  refine F.ok sc_law_world (fun vs H Q E h => ?_) (fun cdv A outer s H vs Q E hr h => ?_)
  · obtain ⟨g, B, rfl, _⟩ := h
    rfl
  · obtain ⟨g, B, rfl, hF, hB, q⟩ := h
    refine ⟨_, (pss_cons (ps_set (i := 2) sc_law_world.nd rfl (.inr rfl) (pe_op op_addL pe_int (pe_cl C__law_draw (hr.mono (by omega)) (by rfl) (pa_cons (pv 0) (pa_cons (pe_ix ix_list (pe_lstL (pa_cons pe_int (pa_cons pe_int pa_nil))) (pe_callTy call_int1 (by rfl) m_int (by decide +kernel) (pa_cons (pv 1) pa_nil)) (fun _ _ => rfl)) pa_nil)))))
  (pss_cons (ps_set (i := 3) sc_law_world.nd rfl (.inr rfl) (pe_cl C__law_any (hr.mono (by omega)) (by rfl) (pa_cons (pv 0) (pa_cons (pe_lstL (pa_cons (pe_lstL (pa_cons pe_str pa_nil)) (pa_cons (pe_lstL (pa_cons pe_str (pa_cons pe_str pa_nil))) (pa_cons (pe_lstL (pa_cons pe_str (pa_cons pe_str (pa_cons pe_str pa_nil)))) (pa_cons (pe_lstL (pa_cons pe_str (pa_cons pe_str (pa_cons pe_str (pa_cons pe_str pa_nil))))) pa_nil))))) pa_nil))))
  (pss_cons (ps_set (i := 4) sc_law_world.nd rfl (.inl rfl) (pe_lstL pa_nil))
  (pss_cons (ps_for PassesOwn.never rfl (pi_range1 (by rfl) m_range (pa_cons (pe_cl C__law_draw (hr.mono (by omega)) (by rfl) (pa_cons (pv 0) (pa_cons (pe_ix ix_list (pe_lstL (pa_cons pe_int (pa_cons pe_int pa_nil))) (pe_callTy call_int1 (by rfl) m_int (by decide +kernel) (pa_cons (pv 1) pa_nil)) (fun _ _ => rfl)) pa_nil))) pa_nil)) (pg_name (i := 5) sc_law_world.nd rfl (.inl rfl))
    (pss_cons (ps_set (i := 6) sc_law_world.nd rfl (.inl rfl) (pe_cl C__law_any (hr.mono (by omega)) (by rfl) (pa_cons (pv 0) (pa_cons (pe_lstL (pa_cons pe_int (pa_cons pe_int (pa_cons (pe_cl C__law_draw (hr.mono (by omega)) (by rfl) (pa_cons (pv 0) (pa_cons pe_int pa_nil))) (pa_cons (pe_cl C__law_draw (hr.mono (by omega)) (by rfl) (pa_cons (pv 0) (pa_cons pe_int pa_nil))) (pa_cons (pe_op op_subL (pe_op op_powL pe_int pe_int) (pe_cl C__law_draw (hr.mono (by omega)) (by rfl) (pa_cons (pv 0) (pa_cons pe_int pa_nil)))) pa_nil)))))) pa_nil))))
  (pss_cons (ps_set (i := 7) sc_law_world.nd rfl (.inl rfl) (pe_tupL (pa_cons (pe_cl C__law_any (hr.mono (by omega)) (by rfl) (pa_cons (pv 0) (pa_cons (pv 3) pa_nil))) (pa_cons (pe_cl C__law_any (hr.mono (by omega)) (by rfl) (pa_cons (pv 0) (pa_cons (pe_lstL (pa_cons pe_int (pa_cons pe_int (pa_cons pe_int (pa_cons (pe_cl C__law_draw (hr.mono (by omega)) (by rfl) (pa_cons (pv 0) (pa_cons pe_int pa_nil))) (pa_cons pe_int pa_nil)))))) pa_nil))) (pa_cons (pe_cl C__law_draw (hr.mono (by omega)) (by rfl) (pa_cons (pv 0) (pa_cons (pv 2) pa_nil))) pa_nil)))))
  (pss_one (ps_expr (pe_bm PySem.F.plainAttrs_list PySem.F.slot_list_append PySem.F.type_list_append mt_append (pv 4) (pa_cons (pe_op op_catT (pv 7) (pe_tupL (pa_cons (pv 6) (pa_cons (pe_op op_addL pe_int (pe_cl C__law_draw (hr.mono (by omega)) (by rfl) (pa_cons (pv 0) (pa_cons pe_int pa_nil)))) pa_nil)))) pa_nil)))))))
  (pss_cons (ps_setLc (i := 8) (own := [("_law_turn", 5)]) (g := (gName 5)) (tt := tYes) rfl sc_law_world.nd rfl rfl (sw_true rfl rfl rfl (by decide +kernel)) (pi_range1 (by rfl) m_range (pa_cons (pe_cl C__law_draw (hr.mono (by omega)) (by rfl) (pa_cons (pv 0) (pa_cons (pe_ix ix_list (pe_lstL (pa_cons pe_int (pa_cons pe_int pa_nil))) (pe_callTy call_int1 (by rfl) m_int (by decide +kernel) (pa_cons (pv 1) pa_nil)) (fun _ _ => rfl)) pa_nil))) pa_nil)) (blkOk_by (own := [("_law_turn", 5)]) (N := ["_law_pool_here", "_law_wide", "_law_size", "_law_names", "_law_sources", "_law_turn", "_law_since", "_law_source", "_law_ways"]) (sc := defScope s_law_world) (by decide +kernel)) (fun _ _ _ _ _ => (pg_name (i := 5) sc_law_world.nd rfl (.inl rfl))) (fun _ _ _ _ _ => pts_nil) (fun _ _ _ _ _ => (pe_cl C__law_way (hr.mono (by omega)) (by rfl) (pa_cons (pv 0) (pa_cons (pv 2) (pa_cons (pv 3) (pa_cons (pv 1) pa_nil)))))))
  (pss_one (ps_ret (pe_tupL (pa_cons (pv 2) (pa_cons (pe_callTy call_tupF (by rfl) m_tuple (by decide +kernel) (pa_cons (pv 3) pa_nil)) (pa_cons (pe_callTy call_tuple_of (by rfl) m_tuple (by decide +kernel) (pa_cons (pv 4) pa_nil)) (pa_cons (pe_callTy call_tuple_of (by rfl) m_tuple (by decide +kernel) (pa_cons (pv 8) pa_nil)) pa_nil)))))))))))), ?_⟩
    -- size
    refine ⟨.ref g.d, rfl, sz (n := 2) (by decide), fun p1 H1 np1 eH1 => ⟨.bl true, rfl, .inr ⟨true, rfl, p1, _, 1, .int 6, rfl, rfl, SqL.of (at_new eH1), rfl, ?_⟩⟩⟩
    have F1 : Fu g _ H1 := eH1 ▸ hF.new np1
    have K1 : Kp g H H1 := by rw [eH1]; exact Kp.new np1
    refine ⟨g, _, 6, rfl, F1, by omega, by decide, by decide, fun x2 H2 x20 x21 F2 K2 => ⟨1, x2, rfl, rfl, fun n en => ?_⟩⟩
    -- names
    refine ⟨.ref g.d, rfl, sz (n := 1) (by decide), fun a1 G1 na1 eG1 => ⟨sz (n := 2) (by decide), fun a2 G2 na2 eG2 => ⟨sz (n := 3) (by decide), fun a3 G3 na3 eG3 => ⟨sz (n := 4) (by decide), fun a4 G4 na4 eG4 => ⟨sz (n := 4) (by decide), fun a5 G5 na5 eG5 => ?_⟩⟩⟩⟩⟩
    have FG1 : Fu g _ G1 := eG1 ▸ F2.new na1
    have FG2 : Fu g _ G2 := eG2 ▸ FG1.new na2
    have FG3 : Fu g _ G3 := eG3 ▸ FG2.new na3
    have FG4 : Fu g _ G4 := eG4 ▸ FG3.new na4
    have FG5 : Fu g _ G5 := eG5 ▸ FG4.new na5
    have KG1 : Kp g H2 G1 := by rw [eG1]; exact Kp.new na1
    have KG2 : Kp g G1 G2 := by rw [eG2]; exact Kp.new na2
    have KG3 : Kp g G2 G3 := by rw [eG3]; exact Kp.new na3
    have KG4 : Kp g G3 G4 := by rw [eG4]; exact Kp.new na4
    have KG5 : Kp g G4 G5 := by rw [eG5]; exact Kp.new na5
    have o1 := F2.off na1
    have o2 := FG1.off na2
    have o3 := FG2.off na3
    have o4 := FG3.off na4
    refine ⟨g, _, .ref a5, rfl, FG5, by omega, .inl ⟨a5, _, rfl, FG4.off na5, at_new eG5, (show 0 < 4 by decide), (show 4 ≤ 1000 by decide), fun v H3 vm F3 K3 => ?_⟩⟩
    have K23 : Kp g H2 H3 := ((((KG1.trans KG2).trans KG3).trans KG4).trans KG5).trans K3
    obtain ⟨pn, ks, rfl, hpn, oN, hk1, hk4, hks, hnd⟩ : ∃ (pn : Addr) (ks : List Str), v = .ref pn ∧ H3 pn = some (.lst (ks.map V.str)) ∧ g.Off pn ∧ 1 ≤ ks.length ∧ ks.length ≤ 4 ∧ (∀ z ∈ ks, Short z) ∧ ks.Nodup := by
      simp only [List.mem_cons, List.not_mem_nil, or_false] at vm
      rcases vm with rfl | rfl | rfl | rfl
      · refine ⟨a1, ["a"], rfl, ((((KG2.trans KG3).trans KG4).trans KG5).trans K3).off o1 (at_new eG1), o1, by decide, by decide, fun z hz => ?_, by decide +kernel⟩
        simp only [List.mem_cons, List.not_mem_nil, or_false] at hz
        rcases hz with rfl
        unfold Short; decide +kernel
      · refine ⟨a2, ["a", "b"], rfl, (((KG3.trans KG4).trans KG5).trans K3).off o2 (at_new eG2), o2, by decide, by decide, fun z hz => ?_, by decide +kernel⟩
        simp only [List.mem_cons, List.not_mem_nil, or_false] at hz
        rcases hz with rfl | rfl <;> (unfold Short; decide +kernel)
      · refine ⟨a3, ["iron", "x", "y"], rfl, ((KG4.trans KG5).trans K3).off o3 (at_new eG3), o3, by decide, by decide, fun z hz => ?_, by decide +kernel⟩
        simp only [List.mem_cons, List.not_mem_nil, or_false] at hz
        rcases hz with rfl | rfl | rfl <;> (unfold Short; decide +kernel)
      · refine ⟨a4, ["a", "aa", "b", "zzzzzzzz"], rfl, (KG5.trans K3).off o4 (at_new eG4), o4, by decide, by decide, fun z hz => ?_, by decide +kernel⟩
        simp only [List.mem_cons, List.not_mem_nil, or_false] at hz
        rcases hz with rfl | rfl | rfl | rfl <;> (unfold Short; decide +kernel)
    -- sources = []
    refine ⟨sz (n := 0) (by decide), fun pz H4 npz eH4 => ?_⟩
    have oZ := F3.off npz
    have F4 : Fu g _ H4 := eH4 ▸ F3.new npz
    have K4 : Kp g H3 H4 := by rw [eH4]; exact Kp.new npz
    have hz4 : H4 pz = some (.lst []) := at_new eH4
    refine ⟨.ref g.d, rfl, sz (n := 2) (by decide), fun p5 H5 np5 eH5 => ⟨.bl true, rfl, .inr ⟨true, rfl, p5, _, 1, .int 7, rfl, rfl, SqL.of (at_new eH5), rfl, ?_⟩⟩⟩
    have F5 : Fu g _ H5 := eH5 ▸ F4.new np5
    have K5 : Kp g H4 H5 := by rw [eH5]; exact Kp.new np5
    refine ⟨g, _, 7, rfl, F5, by omega, by decide, by decide, fun sm H6 sm0 sm1 F6 K6 => ⟨sm, rfl, by omega, by omega, ?_⟩⟩
    have hz6 := (K5.trans K6).off oZ hz4
    have K36 : Kp g H3 H6 := (K4.trans K5).trans K6
    refine for_range (n := sm.toNat) (fun i σ H' => i ≤ sm.toNat ∧ (∃ B' : Nat, B' + i * 9 = B - 3 ∧ Fu g B' H') ∧ Kp g H3 H' ∧ (∃ acc, H' pz = some (.lst acc) ∧ acc.length ≤ i ∧ ∀ x ∈ acc, Sh 1 120 H' x) ∧ ∃ y5 y6 y7, σ = [some (.ref g.d), some (.bl true), some (.int n), some (.ref pn), some (.ref pz), y5, y6, y7, none])
      ⟨by omega, ⟨B - 3, by omega, F6.mono (by omega)⟩, K36, ⟨[], hz6, Nat.le_refl _, fun x h => nomatch h⟩, _, _, _, rfl⟩ (fun i σ H7 hi h => ?_) (fun σ H7 h => ?_)
    · obtain ⟨_, ⟨B', eB, F7⟩, K7, ⟨acc, hacc, la, sa⟩, y5, y6, y7, rfl⟩ := h
      have hB' : 9 ≤ B' := by omega
      -- since
      refine ⟨.ref g.d, rfl, .ref g.d, rfl, g, _, 9, rfl, F7, by omega, by decide, by decide, fun x1 H8 x10 x11 F8 K8 => ⟨.ref g.d, rfl, g, _, 40, rfl, F8, by omega, by decide, by decide, fun x9 H9 x90 x91 F9 K9 => ⟨10, 6, rfl, rfl, by decide, by decide, by decide, fun z ez => ⟨.ref g.d, rfl, g, _, 4, rfl, F9, by omega, by decide, by decide, fun x3 H10 x30 x31 F10 K10 => ⟨z, x3, rfl, rfl, fun z2 ez2 => ⟨sz (n := 5) (by decide), fun p11 H11 np11 eH11 => ?_⟩⟩⟩⟩⟩⟩
      have ez : z = 1000000 := ez
      have F11 : Fu g _ H11 := eH11 ▸ F10.new np11
      have K11 : Kp g H10 H11 := by rw [eH11]; exact Kp.new np11
      refine ⟨g, _, .ref p11, rfl, F11, by omega, .inl ⟨p11, _, rfl, F10.off np11, at_new eH11, (show 0 < 5 by decide), (show 5 ≤ 1000 by decide), fun v H12 vm F12 K12 => ?_⟩⟩
      obtain ⟨sn, rfl, sn0, sn1⟩ : ∃ le : Int, v = .int le ∧ 0 ≤ le ∧ le ≤ 1000000 := by
        simp only [List.mem_cons, List.not_mem_nil, or_false] at vm
        rcases vm with rfl | rfl | rfl | rfl | rfl
        · exact ⟨_, rfl, by decide, by decide⟩
        · exact ⟨_, rfl, by decide, by decide⟩
        · exact ⟨_, rfl, by omega, by omega⟩
        · exact ⟨_, rfl, by omega, by omega⟩
        · exact ⟨_, rfl, by omega, by omega⟩
      have K712 : Kp g H7 H12 := (((K8.trans K9).trans K10).trans K11).trans K12
      -- source
      refine ⟨.ref g.d, rfl, .ref pn, rfl, g, _, .ref pn, rfl, F12, by omega, .inl ⟨pn, _, rfl, oN, (K7.trans K712).off oN hpn, by rw [List.length_map]; omega, by rw [List.length_map]; omega, fun v H13 vm F13 K13 => ?_⟩⟩
      obtain ⟨kd, km, rfl⟩ := List.mem_map.mp vm
      refine ⟨.ref g.d, rfl, .ref g.d, rfl, g, _, 6, rfl, F13, by omega, by decide, by decide, fun x4 H14 x40 x41 F14 K14 => ⟨sz (n := 5) (by decide), fun p15 H15 np15 eH15 => ?_⟩⟩
      have F15 : Fu g _ H15 := eH15 ▸ F14.new np15
      have K15 : Kp g H14 H15 := by rw [eH15]; exact Kp.new np15
      refine ⟨g, _, .ref p15, rfl, F15, by omega, .inl ⟨p15, _, rfl, F14.off np15, at_new eH15, (show 0 < 5 by decide), (show 5 ≤ 1000 by decide), fun v H16 vm F16 K16 => ?_⟩⟩
      obtain ⟨ag, rfl, ag0, ag1⟩ : ∃ le : Int, v = .int le ∧ 0 ≤ le ∧ le ≤ 20 := by
        simp only [List.mem_cons, List.not_mem_nil, or_false] at vm
        rcases vm with rfl | rfl | rfl | rfl | rfl
        · exact ⟨_, rfl, by decide, by decide⟩
        · exact ⟨_, rfl, by decide, by decide⟩
        · exact ⟨_, rfl, by decide, by decide⟩
        · exact ⟨_, rfl, by omega, by omega⟩
        · exact ⟨_, rfl, by decide, by decide⟩
      refine ⟨.ref g.d, rfl, .int n, rfl, g, _, n, rfl, F16, by omega, by omega, by omega, fun pl H17 pl0 pl1 F17 K17 => ⟨sz (n := 3) (by decide), fun p18 H18 np18 eH18 => ?_⟩⟩
      have F18 : Fu g _ H18 := eH18 ▸ F17.new np18
      have K18 : Kp g H17 H18 := by rw [eH18]; exact Kp.new np18
      have hp18 : H18 p18 = some (.tup [.str kd, .int ag, .int pl]) := at_new eH18
      have K718 : Kp g H7 H18 := (((((K712.trans K13).trans K14).trans K15).trans K16).trans K17).trans K18
      -- sources.append
      refine ⟨.ref pz, rfl, .inl ⟨rfl, _, SqL.of (K718.off oZ hacc)⟩, ?_⟩
      refine ⟨.ref p18, rfl, .int sn, rfl, .ref g.d, rfl, g, _, 9, rfl, F18, by omega, by decide, by decide, fun x5 H19 x50 x51 F19 K19 => ⟨1, x5, rfl, rfl, fun mm emm => ⟨sz (n := 2) (by decide), fun p20 H20 np20 eH20 => ?_⟩⟩⟩
      have F20 : Fu g _ H20 := eH20 ▸ F19.new np20
      have K20 : Kp g H19 H20 := by rw [eH20]; exact Kp.new np20
      have hp20 : H20 p20 = some (.tup [.int sn, .int mm]) := at_new eH20
      have K720 : Kp g H7 H20 := (K718.trans K19).trans K20
      refine ⟨p18, p20, _, _, rfl, rfl, SqT.of (F18.tk (K19.trans K20) _ _ hp18), SqT.of hp20, (fun z => nomatch z), sz (show 3 + 2 ≤ 100000 by decide), (fun z => nomatch z), fun _ p21 np21 => ?_⟩
      have F21 := F20.new (o := .tup ([.str kd, .int ag, .int pl] ++ [.int sn, .int mm])) np21
      have K21 : Kp g H20 (upd H20 p21 (.tup ([.str kd, .int ag, .int pl] ++ [.int sn, .int mm]))) := Kp.new np21
      have hp21 : upd H20 p21 (.tup ([.str kd, .int ag, .int pl] ++ [.int sn, .int mm])) p21 = some (.tup [.str kd, .int ag, .int pl, .int sn, .int mm]) := upd_same
      generalize upd H20 p21 (.tup ([.str kd, .int ag, .int pl] ++ [.int sn, .int mm])) = H21 at F21 K21 hp21 ⊢
      have K721 : Kp g H7 H21 := K720.trans K21
      have hacc21 := K721.off oZ hacc
      refine ⟨pz, acc, _, rfl, rfl, hacc21, szl (by omega), ?_⟩
      have T21 : Tk H7 (upd H21 pz (.lst (acc ++ [.ref p21]))) := (F7.tk K721).trans (Tk.lst hacc21)
      refine ⟨by omega, ⟨B' - 9, by omega, (F21.mono (by omega)).upd oZ⟩, (K7.trans K721).mut npz, ⟨acc ++ [.ref p21], upd_same, by rw [List.length_append]; simp; omega, fun x hx => ?_⟩, _, _, _, rfl⟩
      rcases List.mem_append.mp hx with hx | hx
      · exact (sa x hx).mono T21
      · have e : x = .ref p21 := by simpa using hx
        subst e
        refine (Sh.tup (k := 0) (n := 19) (m := 5) (Tk.lst hacc21 _ _ hp21) (fun y hy => ?_) (by simp)).up (by decide) (by decide)
        simp only [List.mem_cons, List.not_mem_nil, or_false] at hy
        rcases hy with rfl | rfl | rfl | rfl | rfl
        · exact Sh.str (hks _ km)
        · exact Sh.int (by omega)
        · exact Sh.int (by omega)
        · exact Sh.int (by omega)
        · exact Sh.int (by omega)
    obtain ⟨_, ⟨B', eB, F7⟩, K7, ⟨acc, hacc, la, sa⟩, y5, y6, y7, rfl⟩ := h
    have hB' : 201 ≤ B' := by omega
    -- ways
    refine ⟨.ref g.d, rfl, sz (n := 2) (by decide), fun p8 H8 np8 eH8 => ⟨.bl true, rfl, .inr ⟨true, rfl, p8, _, 1, .int 9, rfl, rfl, SqL.of (at_new eH8), rfl, ?_⟩⟩⟩
    have F8 : Fu g _ H8 := eH8 ▸ F7.new np8
    have K8 : Kp g H7 H8 := by rw [eH8]; exact Kp.new np8
    refine ⟨g, _, 9, rfl, F8, by omega, by decide, by decide, fun wm H9 wm0 wm1 F9 K9 => ⟨wm, rfl, by omega, by omega, fun D nD => ?_⟩⟩
    have K79 : Kp g H7 H9 := K8.trans K9
    refine lcR (g := g) 25 (Sh 3 2000) (fun _ _ => True) nD F9 (by omega) (by omega) (fun _ _ _ t h => h.mono t) trivial (fun i H10 B3 hi F10 hB3 K10 Qk Qs qk qs => ?_) (fun H10 ws F10 K10 eD el _ al => ?_)
    · refine ⟨rfl, .ref g.d, rfl, .int n, rfl, .ref pn, rfl, .bl true, rfl, g, B3, n, pn, ks, rfl, F10, hB3, by omega, by omega, ((K7.trans K79).trans K10).off oN hpn, oN, hk1, hk4, hks, fun v H11 sv F11 K11 => ?_⟩
      exact qk _ _ F11 K11 sv (fun _ _ => trivial)
    have K710 : Kp g H7 H10 := K79.trans K10
    refine ⟨.int n, rfl, .ref pn, rfl, pn, _, rfl, SqL.of ((K7.trans K710).off oN hpn), fun pk ok H11 npk dk eH11 => ?_⟩
    have F11 : Fu g _ H11 := eH11 ▸ F10.new npk
    have K11 : Kp g H10 H11 := by rw [eH11]; exact Kp.new npk
    have hpk : H11 pk = some (.frz ok (.tup (ks.map V.str))) := at_new eH11
    refine ⟨.ref pz, rfl, pz, acc, rfl, .inl ⟨SqL.of ((K710.trans K11).off oZ hacc), fun ps nps => ?_⟩⟩
    have F12 := F11.new (o := .tup acc) nps
    have K12 : Kp g H11 (upd H11 ps (.tup acc)) := Kp.new nps
    have hps : upd H11 ps (.tup acc) ps = some (.tup acc) := upd_same
    generalize upd H11 ps (.tup acc) = H12 at F12 K12 hps ⊢
    refine ⟨.ref D, rfl, D, ws, rfl, .inl ⟨SqL.of ((K11.trans K12).off (F9.off nD) eD), fun pw npw => ?_⟩⟩
    have F13 := F12.new (o := .tup ws) npw
    have K13 : Kp g H12 (upd H12 pw (.tup ws)) := Kp.new npw
    have hpw : upd H12 pw (.tup ws) pw = some (.tup ws) := upd_same
    generalize upd H12 pw (.tup ws) = H13 at F13 K13 hpw ⊢
    refine ⟨sz (n := 4) (by decide), fun p14 H14 np14 eH14 => ?_⟩
    have F14 : Fu g _ H14 := eH14 ▸ F13.new np14
    have K14 : Kp g H13 H14 := by rw [eH14]; exact Kp.new np14
    have K714 : Kp g H7 H14 := (((K710.trans K11).trans K12).trans K13).trans K14
    have K1014 : Kp g H10 H14 := ((K11.trans K12).trans K13).trans K14
    refine q p14 n pk ok ks ps pw _ ⟨at_new eH14, by omega, by omega, F11.fz ((K12.trans K13).trans K14) hpk, dk, hk1, hk4, hks, ?_, ?_, hnd⟩ (F14.mono (by omega)) ((((K1.trans K2).trans K23).trans K7).trans K714)
    · exact (Sh.tup (m := 6) (F12.tk (K13.trans K14) _ _ hps) (fun x hx => (sa x hx).mono (F7.tk K714)) (by omega)).up (by decide) (by decide)
    · exact (Sh.tup (m := 8) (F13.tk K14 _ _ hpw) (fun x hx => (al x hx).mono (F10.tk K1014)) (by omega)).up (by decide) (by decide)
end
end Rt
namespace Rt
open PySem PySem.Spec PyProof.Rows L2
def cv : Option Int → V
  | none => .non
  | some i => .int i
/-- never rising: what has a number has a number not above it at each later age -/
def Fall (cs : List (Option Int)) : Prop := ∀ (i j : Nat) (a : Int), i ≤ j → j < cs.length → cs[i]? = some (some a) → ∃ b : Int, cs[j]? = some (some b) ∧ b ≤ a
/-- a stair of a place -/
def Stair (n : Int) (H : Hp) (pl : Nat) (v : V) : Prop := ∃ (r : Addr) (cs : List (Option Int)), v = .ref r ∧ H r = some (.tup (cs.map cv)) ∧ cs.length = 27 ∧ Fall cs ∧ ∀ i, some i ∈ cs → i % n = pl ∧ -20 ≤ i ∧ i ≤ 3000000000000000
def IsTab (n : Int) (nk : Nat) (H : Hp) (v : V) : Prop := ∃ (p : Addr) (rows : List V), v = .ref p ∧ H p = some (.tup rows) ∧ rows.length = nk ∧ ∀ x ∈ rows, ∃ (q : Addr) (sts : List V), x = .ref q ∧ H q = some (.tup sts) ∧ sts.length = n.toNat ∧ ∀ (j : Nat) y, sts[j]? = some y → Stair n H j y
theorem Stair.mono {n : Int} {H H' : Hp} {pl : Nat} {v : V} (t : Tk H H') (h : Stair n H pl v) : Stair n H' pl v := by
  obtain ⟨r, cs, e, hr, x⟩ := h
  exact ⟨r, cs, e, t _ _ hr, x⟩
theorem IsTab.mono {n : Int} {nk : Nat} {H H' : Hp} {v : V} (t : Tk H H') (h : IsTab n nk H v) : IsTab n nk H' v := by
  obtain ⟨p, rows, e, hp, l, a⟩ := h
  refine ⟨p, rows, e, t _ _ hp, l, fun x hx => ?_⟩
  obtain ⟨q, sts, e2, hq, l2, b⟩ := a x hx
  exact ⟨q, sts, e2, t _ _ hq, l2, fun j y hy => (b j y hy).mono t⟩
theorem Stair.sh {n : Int} {H : Hp} {pl : Nat} {v : V} (h : Stair n H pl v) : Sh 1 570 H v := by
  obtain ⟨r, cs, rfl, hr, l, _, b⟩ := h
  refine (Sh.tup (k := 0) (n := 19) (m := 27) hr (fun x hx => ?_) (by rw [List.length_map]; omega)).up (by decide) (by decide)
  obtain ⟨c, cm, rfl⟩ := List.mem_map.mp hx
  cases c with
  | none => exact Sh.non
  | some i => exact Sh.int (by have := b i cm; omega)
theorem IsTab.sh {n : Int} {nk : Nat} {H : Hp} {v : V} (h : IsTab n nk H v) (n6 : n ≤ 6) (k4 : nk ≤ 4) : Sh 3 14000 H v := by
  obtain ⟨p, rows, rfl, hp, l, a⟩ := h
  refine (Sh.tup (k := 2) (n := 3435) (m := 4) hp (fun x hx => ?_) (by omega)).up (by decide) (by decide)
  obtain ⟨q, sts, rfl, hq, l2, b⟩ := a x hx
  refine (Sh.tup (k := 1) (n := 570) (m := 6) hq (fun y hy => ?_) (by omega)).up (by decide) (by decide)
  obtain ⟨j, hj⟩ := List.mem_iff_getElem?.mp hy
  exact (b j y hj).sh
def lowI (c : Option Int) (o : Int) : Int := match c with
  | none => o
  | some x => if x > o then o else x
def low (c : Option Int) (o : Int) : Option Int := some (lowI c o)
theorem lowI_some (x o : Int) : lowI (some x) o = if x > o then o else x := rfl
theorem lowI_le (c : Option Int) (o : Int) : lowI c o ≤ o := by
  cases c with
  | none => exact Int.le_refl _
  | some x => rw [lowI_some]; split <;> omega
theorem fall_low {cs ds : List (Option Int)} {b : Nat} {o : Int} (h : Fall cs) (el : ds.length = cs.length) (hd : ∀ i c, cs[i]? = some c → ds[i]? = some (if b ≤ i then low c o else c)) : Fall ds := by
  intro i j a hij hj hi
  have hjc : j < cs.length := by omega
  have hic : i < cs.length := by omega
  have ei := hd i _ (List.getElem?_eq_getElem hic)
  have ej := hd j _ (List.getElem?_eq_getElem hjc)
  rw [hi] at ei
  have ei := (Option.some.inj ei).symm
  by_cases hb : b ≤ i
  · rw [if_pos hb] at ei
    rw [if_pos (by omega)] at ej
    have ei : lowI cs[i] o = a := Option.some.inj ei
    refine ⟨lowI cs[j] o, ej, ?_⟩
    cases ec : cs[i] with
    | none =>
      rw [ec] at ei
      have ei : o = a := ei
      rw [← ei]
      exact lowI_le _ _
    | some x =>
      obtain ⟨y, hy, yx⟩ := h i j x hij hjc (by rw [List.getElem?_eq_getElem hic, ec])
      have hy : cs[j] = some y := Option.some.inj ((List.getElem?_eq_getElem hjc).symm.trans hy)
      rw [ec, lowI_some] at ei
      rw [hy, lowI_some]
      split at ei <;> split <;> omega
  · rw [if_neg hb] at ei
    obtain ⟨y, hy, yx⟩ := h i j a hij hjc (by rw [List.getElem?_eq_getElem hic, ei])
    have hy : cs[j] = some y := Option.some.inj ((List.getElem?_eq_getElem hjc).symm.trans hy)
    rw [hy] at ej
    by_cases hb2 : b ≤ j
    · rw [if_pos hb2] at ej
      refine ⟨lowI (some y) o, ej, ?_⟩
      rw [lowI_some]
      split <;> omega
    · rw [if_neg hb2] at ej
      exact ⟨y, ej, yx⟩
theorem place_least {n pl : Int} (h1 : 1 ≤ n) (h6 : n ≤ 6) (p0 : 0 ≤ pl) (p1 : pl < n) : (-20 + (pl + 20) % n) % n = pl ∧ -20 ≤ -20 + (pl + 20) % n ∧ -20 + (pl + 20) % n ≤ -15 := by
  rcases six h1 h6 with rfl | rfl | rfl | rfl | rfl | rfl <;> omega
theorem place_far {n l k : Int} (h1 : 1 ≤ n) (h6 : n ≤ 6) : (l + n * k) % n = l % n := by
  rcases six h1 h6 with rfl | rfl | rfl | rfl | rfl | rfl <;> omega
theorem place_peak {n pl : Int} (h1 : 1 ≤ n) (h6 : n ≤ 6) (p0 : 0 ≤ pl) (p1 : pl < n) : (3000000000000000 - (3000000000000000 - pl) % n) % n = pl ∧ 0 ≤ 3000000000000000 - (3000000000000000 - pl) % n ∧ 3000000000000000 - (3000000000000000 - pl) % n ≤ 3000000000000000 := by
  rcases six h1 h6 with rfl | rfl | rfl | rfl | rfl | rfl <;> omega
theorem mul_div_bd {n m : Int} (h1 : 1 ≤ n) (h6 : n ≤ 6) (m0 : 0 ≤ m) : 0 ≤ n * (m / n) ∧ n * (m / n) ≤ m := by
  rcases six h1 h6 with rfl | rfl | rfl | rfl | rfl | rfl <;> omega
section
variable {P : Program} {w : World} {K : PySem.W.Frag} {mg : Str → Option Value} {base : Heap}
def spOrigin : Sp := fun vs H Q _ => ∃ (g : Gd) (B : Nat) (n pl : Int), vs = [.ref g.d, .int n, .int pl, .bl true] ∧ Fu g B H ∧ 3 ≤ B ∧ 1 ≤ n ∧ n ≤ 6 ∧ 0 ≤ pl ∧ pl < n ∧
  ∀ (o : Int) H', o % n = pl → -20 ≤ o → o ≤ 3000000000000000 → Fu g (B - 3) H' → Kp g H H' → Q (.int o) H'
theorem ok_origin {f : Addr} {fd : FuncData} (F : Fun K "_law_origin" "_law_origin" s_law_origin f fd) (m_int : mg "int" = none)
    (C__law_draw : Cl P w K mg base 1 "_law_draw" ["_law_pool_here", "_law_many"] spNext) (C__law_any : Cl P w K mg base 2 "_law_any" ["_law_pool_here", "_law_some"] (spOne K)) :
    FnOk P w K mg base CX0 3 f fd ["_law_pool_here", "_law_size", "_law_place", "_law_peaks"] spOrigin := by
  refine F.ok sc_law_origin (fun vs H Q E h => ?_) (fun cdv A outer s H vs Q E hr h => ?_)
  · obtain ⟨g, B, n, pl, rfl, _⟩ := h
    rfl
  · obtain ⟨g, B, n, pl, rfl, hF, hB, n1, n6, p0, p1, q⟩ := h
    refine ⟨_, (pss_cons (ps_set (i := 4) sc_law_origin.nd rfl (.inl rfl) (pe_op op_addL (pe_un un_neg pe_int) (pe_op op_modL (pe_op op_addL (pv 2) pe_int) (pv 1))))
  (pss_cons (ps_set (i := 5) sc_law_origin.nd rfl (.inl rfl) (pe_op op_addL (pv 4) (pe_op op_mulL (pv 1) (pe_op op_divL (pe_op op_powL pe_int pe_int) (pv 1)))))
  (pss_cons (ps_set (i := 6) sc_law_origin.nd rfl (.inl rfl) (pe_ix ix_list (pe_lstL (pa_cons (pv 5) (pa_cons (pe_op op_subL (pe_op op_mulL pe_int (pe_op op_powL pe_int pe_int)) (pe_op op_modL (pe_op op_subL (pe_op op_mulL pe_int (pe_op op_powL pe_int pe_int)) (pv 2)) (pv 1))) pa_nil))) (pe_callTy call_int1 (by rfl) m_int (by decide +kernel) (pa_cons (pv 3) pa_nil)) (fun _ _ => rfl)))
  (pss_one (ps_ret (pe_cl C__law_any (hr.mono (by omega)) (by rfl) (pa_cons (pv 0) (pa_cons (pe_lstL (pa_cons (pv 4) (pa_cons (pe_op op_addL (pv 4) (pe_op op_mulL (pv 1) (pe_cl C__law_draw (hr.mono (by omega)) (by rfl) (pa_cons (pv 0) (pa_cons pe_int pa_nil))))) (pa_cons (pe_op op_addL (pv 4) (pe_op op_mulL (pv 1) (pe_cl C__law_draw (hr.mono (by omega)) (by rfl) (pa_cons (pv 0) (pa_cons pe_int pa_nil))))) (pa_cons (pv 5) (pa_cons (pv 6) pa_nil)))))) pa_nil)))))))), ?_⟩
    -- least
    refine ⟨20, rfl, .int pl, rfl, pl, 20, rfl, rfl, fun a1 ea1 => ⟨.int n, rfl, a1, n, rfl, rfl, by omega, fun a2 ea2 a20 a21 => ⟨-20, a2, rfl, rfl, fun le ele => ?_⟩⟩⟩
    obtain ⟨l1, l2, l3⟩ := place_least n1 n6 p0 p1
    rw [← ea1, ← ea2, ← ele] at l1 l2 l3
    -- far
    refine ⟨.int le, rfl, .int n, rfl, 10, 15, rfl, rfl, by decide, by decide, by decide, fun b1 eb1 => ⟨.int n, rfl, b1, n, rfl, rfl, wide_div (b := 3) (by omega) (by omega) (by decide) (by decide), fun b2 eb2 => ⟨n, b2, rfl, rfl, .inl ⟨by omega, by omega⟩, fun b3 eb3 => ⟨le, b3, rfl, rfl, fun fa efa => ?_⟩⟩⟩⟩
    have eb1 : b1 = 1000000000000000 := eb1
    have f1 : fa % n = pl := by rw [efa, eb3, place_far n1 n6]; exact l1
    obtain ⟨f2, f3⟩ := mul_div_bd (m := b1) n1 n6 (by omega)
    rw [← eb2, ← eb3] at f2 f3
    -- peak
    refine ⟨.int fa, rfl, 10, 15, rfl, rfl, by decide, by decide, by decide, fun c1 ec1 => ⟨3, c1, rfl, rfl, .inl ⟨by decide, by decide⟩, fun c2 ec2 => ⟨10, 15, rfl, rfl, by decide, by decide, by decide, fun c3 ec3 => ⟨3, c3, rfl, rfl, .inl ⟨by decide, by decide⟩, fun c4 ec4 => ⟨.int pl, rfl, c4, pl, rfl, rfl, fun c5 ec5 => ⟨.int n, rfl, c5, n, rfl, rfl, by omega, fun c6 ec6 c60 c61 => ⟨c2, c6, rfl, rfl, fun pk epk => ⟨sz (n := 2) (by decide), fun p1' H1 np1 eH1 => ⟨.bl true, rfl, .inr ⟨true, rfl, p1', _, 1, .int pk, rfl, rfl, SqL.of (at_new eH1), rfl, ?_⟩⟩⟩⟩⟩⟩⟩⟩⟩⟩
    have ec1 : c1 = 1000000000000000 := ec1
    have ec3 : c3 = 1000000000000000 := ec3
    have k4 : c4 = 3000000000000000 := by omega
    have k2 : c2 = 3000000000000000 := by omega
    obtain ⟨k1, k5, k6⟩ := place_peak n1 n6 p0 p1
    rw [← k4, ← ec5, ← ec6, k4, ← k2, ← epk] at k1
    have F1 : Fu g _ H1 := eH1 ▸ hF.new np1
    have K1 : Kp g H H1 := by rw [eH1]; exact Kp.new np1
    -- any
    refine ⟨.ref g.d, rfl, .int le, rfl, .int le, rfl, .int n, rfl, .ref g.d, rfl, g, _, 15, rfl, F1, by omega, by decide, by decide, fun x2 H2 x20 x21 F2 K2 => ⟨n, x2, rfl, rfl, .inl ⟨by omega, by omega⟩, fun d1 ed1 => ⟨le, d1, rfl, rfl, fun d2 ed2 => ⟨.int le, rfl, .int n, rfl, .ref g.d, rfl, g, _, 60, rfl, F2, by omega, by decide, by decide, fun x3 H3 x30 x31 F3 K3 => ⟨n, x3, rfl, rfl, .inl ⟨by omega, by omega⟩, fun d3 ed3 => ⟨le, d3, rfl, rfl, fun d4 ed4 => ⟨.int fa, rfl, .int pk, rfl, sz (n := 5) (by decide), fun p4 H4 np4 eH4 => ?_⟩⟩⟩⟩⟩⟩⟩
    have F4 : Fu g _ H4 := eH4 ▸ F3.new np4
    have K4 : Kp g H3 H4 := by rw [eH4]; exact Kp.new np4
    refine ⟨g, _, .ref p4, rfl, F4, by omega, .inl ⟨p4, _, rfl, F3.off np4, at_new eH4, (show 0 < 5 by decide), (show 5 ≤ 1000 by decide), fun v H5 vm F5 K5 => ?_⟩⟩
    have KK : Kp g H H5 := (((K1.trans K2).trans K3).trans K4).trans K5
    have dd1 : 0 ≤ d1 ∧ d1 ≤ 84 := by rw [ed1]; rcases six n1 n6 with rfl | rfl | rfl | rfl | rfl | rfl <;> omega
    have dd3 : 0 ≤ d3 ∧ d3 ≤ 354 := by rw [ed3]; rcases six n1 n6 with rfl | rfl | rfl | rfl | rfl | rfl <;> omega
    simp only [List.mem_cons, List.not_mem_nil, or_false] at vm
    rcases vm with rfl | rfl | rfl | rfl | rfl
    · exact q _ _ l1 l2 (by omega) (F5.mono (by omega)) KK
    · exact q _ _ (by rw [ed2, ed1, place_far n1 n6]; exact l1) (by omega) (by omega) (F5.mono (by omega)) KK
    · exact q _ _ (by rw [ed4, ed3, place_far n1 n6]; exact l1) (by omega) (by omega) (F5.mono (by omega)) KK
    · exact q _ _ f1 (by omega) (by omega) (F5.mono (by omega)) KK
    · exact q _ _ k1 (by omega) (by omega) (F5.mono (by omega)) KK
end
end Rt
namespace Rt
open PySem PySem.Spec PyProof.Rows L2
/-- a comprehension over a range that draws, without a test: the j-th item is Pt j -/
theorem lcI {g : Gd} {lo : Int} {n : Nat} {gt : TG} {te : TE} {vs : List Nat} {σ : L2.St} {H1 : Hp} {D : Addr} {Qd : Hp → Prop} {B : Nat} (c : Nat) (Pt : Nat → Hp → V → Prop) (hD : H1 D = none) (hF : Fu g B H1) (hn : n ≤ 1000) (hB : n * c ≤ B)
    (mono : ∀ j H H' x, Tk H H' → Pt j H x → Pt j H' x)
    (hs : ∀ i H (B' : Nat), i < n → Fu g B' H → c ≤ B' → Kp g H1 H → ∀ Qk : VK, (∀ y H', Fu g (B' - c) H' → Kp g H H' → Pt i H' y → Qk y H') →
      gt (.int (lo + i)) (wipe σ vs) H fun σ2 H2 => wipe σ2 vs = wipe σ vs ∧ te σ2 H2 Qk)
    (hd : ∀ H acc, Fu g (B - n * c) H → Kp g H1 H → H D = some (.lst acc) → acc.length = n → (∀ (j : Nat) y, acc[j]? = some y → Pt j H y) → Qd H) :
    ∃ W : Nat → Nat → Hp → Prop, (∃ m, W 0 m (upd H1 D (.lst []))) ∧ ∀ i m H, W i m H →
      ((Itr lo n).stop i H ∧ Qd H) ∨ ((Itr lo n).go i H ∧ ∃ Nx : Hp → Prop, (∀ H', Nx H' → ∃ m', m' < m ∧ W (i + 1) m' H') ∧ ∀ x H', (Itr lo n).yld i H x H' → gt x (wipe σ vs) H' fun σ2 H2 => wipe σ2 vs = wipe σ vs ∧ tYes σ2 H2 fun b H3 =>
        if b = true then te σ2 H3 fun y H4 => ∃ acc, H4 D = some (.lst acc) ∧ acc.length < sizeLine ∧ Nx (upd H4 D (.lst (acc ++ [y]))) else Nx H3) := by
  have oD := hF.off hD
  refine lc_range (tt := tYes) (Pv := fun i H => i ≤ n ∧ ∃ B', B' + i * c = B ∧ Fu g B' H ∧ Kp g H1 H ∧ ∃ acc, H D = some (.lst acc) ∧ acc.length = i ∧ ∀ (j : Nat) y, acc[j]? = some y → Pt j H y) ⟨Nat.zero_le _, B, by omega, hF.upd oD, Kp.new hD, [], upd_same, rfl, fun j y h => nomatch h⟩ (fun i H hi p => ?_) (fun H p => ?_)
  · obtain ⟨_, B', eB, f, k, acc, eD, el, al⟩ := p
    have h1 : (i + 1) * c ≤ n * c := Nat.mul_le_mul_right c hi
    have h2 : (i + 1) * c = i * c + c := Nat.succ_mul i c
    refine hs i H B' hi f (by omega) k _ (fun y H' f' k' py => ?_)
    have eD' := k'.off oD eD
    refine ⟨acc, eD', szl (by omega), hi, B' - c, by omega, f'.upd oD, (k.trans k').mut hD, acc ++ [y], upd_same, by rw [List.length_append, el]; rfl, fun j z hz => ?_⟩
    have T' : Tk H' (upd H' D (.lst (acc ++ [y]))) := Tk.lst eD'
    by_cases hj : j < acc.length
    · rw [List.getElem?_append_left hj] at hz
      exact mono _ _ _ _ T' (mono _ _ _ _ (f.tk k') (al j z hz))
    · have hj2 : j < (acc ++ [y]).length := (List.getElem?_eq_some_iff.mp hz).1
      rw [List.length_append] at hj2
      have ej : j = acc.length := by
        have : j < acc.length + 1 := hj2
        omega
      subst ej
      rw [List.getElem?_append_right (Nat.le_refl _), Nat.sub_self] at hz
      cases hz
      rw [el]
      exact mono _ _ _ _ T' py
  · obtain ⟨_, B', eB, f, k, acc, eD, el, al⟩ := p
    exact hd H acc (f.mono (by omega)) k eD el al
section
variable {P : Program} {w : World} {K : PySem.W.Frag} {mg : Str → Option Value} {base : Heap}
def spStair : Sp := fun vs H Q _ => ∃ (g : Gd) (B : Nat) (n pl : Int), vs = [.ref g.d, .int n, .int pl, .bl true] ∧ Fu g B H ∧ 13 ≤ B ∧ 1 ≤ n ∧ n ≤ 6 ∧ 0 ≤ pl ∧ pl < n ∧
  ∀ v H', Stair n H' pl.toNat v → Fu g (B - 13) H' → Kp g H H' → Q v H'
theorem ok_stair {f : Addr} {fd : FuncData} (F : Fun K "_law_stair" "_law_stair" s_law_stair f fd) (m_range : mg "range" = none) (m_tuple : mg "tuple" = none)
    (C__law_draw : Cl P w K mg base 1 "_law_draw" ["_law_pool_here", "_law_many"] spNext) (C__law_origin : Cl P w K mg base 3 "_law_origin" ["_law_pool_here", "_law_size", "_law_place", "_law_peaks"] spOrigin) :
    FnOk P w K mg base CX0 4 f fd ["_law_pool_here", "_law_size", "_law_place", "_law_peaks"] spStair := by
  refine F.ok sc_law_stair (fun vs H Q E h => ?_) (fun cdv A outer s H vs Q E hr h => ?_)
  · obtain ⟨g, B, n, pl, rfl, _⟩ := h
    rfl
  · obtain ⟨g, B, n, pl, rfl, hF, hB, n1, n6, p0, p1, q⟩ := h
    refine ⟨_, (pss_cons (ps_set (i := 4) sc_law_stair.nd rfl (.inl rfl) (pe_op op_rep (pe_lstL (pa_cons pe_non pa_nil)) pe_int))
  (pss_cons (ps_for PassesOwn.never rfl (pi_range1 (by rfl) m_range (pa_cons (pe_cl C__law_draw (hr.mono (by omega)) (by rfl) (pa_cons (pv 0) (pa_cons pe_int pa_nil))) pa_nil)) (pg_name (i := 5) sc_law_stair.nd rfl (.inl rfl))
    (pss_cons (ps_par (i := 6) (j := 7) (by rfl) sc_law_stair.nd rfl rfl (by decide) rfl rfl (pa_cons (pe_cl C__law_origin (hr.mono (by omega)) (by rfl) (pa_cons (pv 0) (pa_cons (pv 1) (pa_cons (pv 2) (pa_cons (pv 3) pa_nil))))) (pa_cons (pe_cl C__law_draw (hr.mono (by omega)) (by rfl) (pa_cons (pv 0) (pa_cons pe_int pa_nil))) pa_nil)) (by rfl))
  (pss_one (ps_for PassesOwn.never rfl (pi_range2 (by rfl) m_range (pa_cons (pv 7) (pa_cons pe_int pa_nil))) (pg_name (i := 8) sc_law_stair.nd rfl (.inl rfl))
    (pss_one (ps_if (PW.pt (pw_or (pt_cmpR op_isN (pe_ix ix_list (pv 4) (pv 8) (fun _ _ => rfl)) pe_non (nomark _)) (pw_or1 (pt_cmpR op_gt (pe_ix ix_list (pv 4) (pv 8) (fun _ _ => rfl)) (pv 6) (nomark _)))))
    (pss_one (ps_asg (pv 6) (pg_sub (pv 4) (pv 8) set_listL)))
    pss_nil))))))
  (pss_one (ps_ret (pe_callTy call_tuple_of (by rfl) m_tuple (by decide +kernel) (pa_cons (pv 4) pa_nil)))))), ?_⟩
    refine ⟨sz (n := 1) (by decide), fun p1' H1 np1 eH1 => ⟨p1', 27, [.non], rfl, rfl, at_new eH1, by decide, by decide, sz (show 1 * 27 ≤ 100000 by decide), fun pf npf => ?_⟩⟩
    have F1 : Fu g _ H1 := eH1 ▸ hF.new np1
    have K1 : Kp g H H1 := by rw [eH1]; exact Kp.new np1
    have nf : H pf = none := by
      cases z : H pf with
      | none => rfl
      | some o =>
        rw [eH1, upd_ne (ne_of_none z np1), z] at npf
        cases npf
    have oP := F1.off npf
    have h27 : (List.replicate (27 : Int).toNat [V.non]).flatten = (List.replicate 27 (none : Option Int)).map cv := rfl
    rw [h27]
    have F2 := F1.new (o := .lst ((List.replicate 27 (none : Option Int)).map cv)) npf
    have K2 : Kp g H (upd H1 pf (.lst ((List.replicate 27 (none : Option Int)).map cv))) := K1.trans (Kp.new npf)
    have hf2 : upd H1 pf (.lst ((List.replicate 27 (none : Option Int)).map cv)) pf = some (.lst ((List.replicate 27 (none : Option Int)).map cv)) := upd_same
    generalize upd H1 pf (.lst ((List.replicate 27 (none : Option Int)).map cv)) = H2 at F2 K2 hf2 ⊢
    refine ⟨.ref g.d, rfl, g, _, 4, rfl, F2, by omega, by decide, by decide, fun tn H3 tn0 tn1 F3 K3 => ⟨tn, rfl, by omega, by omega, ?_⟩⟩
    refine for_range (n := tn.toNat) (fun i σ H' => i ≤ tn.toNat ∧ (∃ B' : Nat, B' + i * 4 = B - 1 ∧ Fu g B' H') ∧ Kp g H H' ∧ (∃ cs : List (Option Int), H' pf = some (.lst (cs.map cv)) ∧ cs.length = 27 ∧ Fall cs ∧ ∀ i, some i ∈ cs → i % n = pl ∧ -20 ≤ i ∧ i ≤ 3000000000000000) ∧ ∃ y5 y6 y7 y8, σ = [some (.ref g.d), some (.int n), some (.int pl), some (.bl true), some (.ref pf), y5, y6, y7, y8])
      ⟨by omega, ⟨B - 1, by omega, F3⟩, K2.trans K3, ⟨_, K3.off oP hf2, List.length_replicate .., (fun i j a _ _ h => by rw [List.getElem?_replicate] at h; split at h <;> cases h), (fun i h => nomatch List.eq_of_mem_replicate h)⟩, _, _, _, _, rfl⟩ (fun i σ H4 hi h => ?_) (fun σ H4 h => ?_)
    · obtain ⟨_, ⟨B', eB, F4⟩, K4, ⟨cs, hcs, lcs, fl, bd⟩, y5, y6, y7, y8, rfl⟩ := h
      have hB' : 4 ≤ B' := by omega
      refine ⟨.ref g.d, rfl, .int n, rfl, .int pl, rfl, .bl true, rfl, g, B', n, pl, rfl, F4, by omega, n1, n6, p0, p1, fun o H5 o1 o2 o3 F5 K5 => ?_⟩
      refine ⟨.ref g.d, rfl, g, _, 27, rfl, F5, by omega, by decide, by decide, fun be H6 be0 be1 F6 K6 => ⟨_, _, rfl, ?_⟩⟩
      have hcs6 := (K5.trans K6).off oP hcs
      refine ⟨.int be, rfl, be, 27, rfl, ⟨by omega, by omega, by decide, by decide⟩, ?_⟩
      refine for_range (lo := be) (n := (27 - be).toNat) (fun k σ H' => k ≤ (27 - be).toNat ∧ (∃ ds : List (Option Int), H' = upd H6 pf (.lst (ds.map cv)) ∧ ds.length = 27 ∧ ∀ i c, cs[i]? = some c → ds[i]? = some (if be.toNat ≤ i ∧ i < be.toNat + k then low c o else c)) ∧ ∃ y5 y8, σ = [some (.ref g.d), some (.int n), some (.int pl), some (.bl true), some (.ref pf), y5, some (.int o), some (.int be), y8])
        ⟨by omega, ⟨cs, (funext fun b => (by
            by_cases e : b = pf
            · subst e; rw [upd_same]; exact hcs6
            · rw [upd_ne e])), lcs, fun i c hc => by rw [if_neg (by omega)]; exact hc⟩, _, _, rfl⟩ (fun k σ H7 hk h => ?_) (fun σ H7 h => ?_)
      · obtain ⟨_, ⟨ds, eH7, lds, hds⟩, y5, y8, rfl⟩ := h
        have hpf7 : H7 pf = some (.lst (ds.map cv)) := at_new eH7
        have hj : be.toNat + k < cs.length := by omega
        have hcj : cs[be.toNat + k]? = some cs[be.toNat + k] := List.getElem?_eq_getElem hj
        have hdj : ds[be.toNat + k]? = some cs[be.toNat + k] := by
          have := hds _ _ hcj
          rwa [if_neg (by omega)] at this
        generalize cs[be.toNat + k] = c at hcj hdj
        have eb : be + (k : Int) = ((be.toNat + k : Nat) : Int) := by omega
        rw [eb]
        have hat : atI (ds.map cv) ((be.toNat + k : Nat) : Int) = some (cv c) := atI_nat (by rw [List.getElem?_map, hdj]; rfl)
        have upd2 : ∀ es : List (Option Int), upd H7 pf (.lst (es.map cv)) = upd H6 pf (.lst (es.map cv)) := fun es => by
          rw [eH7]
          funext b
          by_cases e : b = pf
          · subst e; rw [upd_same, upd_same]
          · rw [upd_ne e, upd_ne e, upd_ne e]
        have sets : ∀ H' : Hp, H' = upd H7 pf (.lst ((ds.map cv).set (be.toNat + k) (.int o))) → low c o = some o → ∃ es : List (Option Int), H' = upd H6 pf (.lst (es.map cv)) ∧ es.length = 27 ∧ ∀ i c, cs[i]? = some c → es[i]? = some (if be.toNat ≤ i ∧ i < be.toNat + (k + 1) then low c o else c) := by
          intro H' e lo
          refine ⟨ds.set (be.toNat + k) (some o), ?_, by rw [List.length_set, lds], fun i c2 hc2 => ?_⟩
          · rw [e, ← upd2, List.map_set]
            rfl
          · by_cases ei : be.toNat + k = i
            · subst ei
              rw [hcj] at hc2
              cases hc2
              rw [List.getElem?_set_self (by rw [lds]; omega), if_pos (by omega), lo]
            · rw [List.getElem?_set_ne ei, hds i c2 hc2]
              by_cases h1 : be.toNat ≤ i ∧ i < be.toNat + k
              · rw [if_pos h1, if_pos (by omega)]
              · rw [if_neg h1, if_neg (by omega)]
        have keeps : low c o = c → ∀ i c, cs[i]? = some c → ds[i]? = some (if be.toNat ≤ i ∧ i < be.toNat + (k + 1) then low c o else c) := by
          intro lo i c2 hc2
          rw [hds i c2 hc2]
          by_cases ei : be.toNat + k = i
          · subst ei
            rw [hcj] at hc2
            cases hc2
            rw [if_neg (by omega), if_pos (by omega), lo]
          · by_cases h1 : be.toNat ≤ i ∧ i < be.toNat + k
            · rw [if_pos h1, if_pos (by omega)]
            · rw [if_neg h1, if_neg (by omega)]
        refine ⟨.ref pf, rfl, .int _, rfl, pf, _, _, _, rfl, rfl, SqL.of hpf7, hat, ?_⟩
        cases c with
        | none =>
          refine ⟨rfl, _, rfl, ?_⟩
          refine ⟨.int o, rfl, .ref pf, rfl, .int _, rfl, pf, _, _, be.toNat + k, rfl, rfl, hpf7, ?_, fun H8 eH8 => ?_⟩
          · rw [ixN_in (by omega) (by rw [List.length_map, lds]; omega)]
            rfl
          · exact ⟨by omega, sets H8 eH8 rfl, _, _, rfl⟩
        | some x =>
          refine ⟨rfl, _, rfl, ?_⟩
          refine ⟨.ref pf, rfl, .int _, rfl, pf, _, _, _, rfl, rfl, SqL.of hpf7, hat, .int o, rfl, x, o, rfl, rfl, _, rfl, ite2 (fun e => ?_) (fun e => ?_)⟩
          · have e : o < x := of_decide_eq_true e
            refine ⟨.int o, rfl, .ref pf, rfl, .int _, rfl, pf, _, _, be.toNat + k, rfl, rfl, hpf7, ?_, fun H8 eH8 => ?_⟩
            · rw [ixN_in (by omega) (by rw [List.length_map, lds]; omega)]
              rfl
            · refine ⟨by omega, sets H8 eH8 ?_, _, _, rfl⟩
              show some (lowI (some x) o) = some o
              rw [lowI_some, if_pos e]
          · have e : ¬ o < x := fun z => e (decide_eq_true z)
            refine ⟨by omega, ⟨ds, eH7, lds, keeps ?_⟩, _, _, rfl⟩
            show some (lowI (some x) o) = some x
            rw [lowI_some, if_neg e]
      · obtain ⟨_, ⟨ds, eH7, lds, hds⟩, y5, y8, rfl⟩ := h
        have hds2 : ∀ i c, cs[i]? = some c → ds[i]? = some (if be.toNat ≤ i then low c o else c) := fun i c hc => by
          have hi : i < cs.length := (List.getElem?_eq_some_iff.mp hc).1
          rw [hds i c hc]
          by_cases h1 : be.toNat ≤ i
          · rw [if_pos h1, if_pos (by omega)]
          · rw [if_neg h1, if_neg (by omega)]
        have F7 : Fu g _ H7 := eH7 ▸ F6.upd oP
        have K7 : Kp g H H7 := by rw [eH7]; exact ((K4.trans K5).trans K6).mut nf
        refine ⟨by omega, ⟨B' - 4, by omega, F7.mono (by omega)⟩, K7, ⟨ds, at_new eH7, lds, fall_low fl (by omega) hds2, fun z hz => ?_⟩, _, _, _, _, rfl⟩
        obtain ⟨i, hi⟩ := List.mem_iff_getElem?.mp hz
        have hil : i < ds.length := (List.getElem?_eq_some_iff.mp hi).1
        have hic : i < cs.length := by omega
        have e := hds2 i _ (List.getElem?_eq_getElem hic)
        rw [hi] at e
        have e := Option.some.inj e
        have old : ∀ y, cs[i] = some y → y % n = pl ∧ -20 ≤ y ∧ y ≤ 3000000000000000 := fun y hy => bd y (hy ▸ List.getElem_mem hic)
        by_cases h1 : be.toNat ≤ i
        · rw [if_pos h1] at e
          have e : z = lowI cs[i] o := Option.some.inj e
          cases ec : cs[i] with
          | none =>
            rw [ec] at e
            have e : z = o := e
            rw [e]
            exact ⟨o1, o2, o3⟩
          | some y =>
            rw [ec, lowI_some] at e
            by_cases h2 : y > o
            · rw [if_pos h2] at e
              rw [e]
              exact ⟨o1, o2, o3⟩
            · rw [if_neg h2] at e
              rw [e]
              exact old y ec
        · rw [if_neg h1] at e
          exact old z e.symm
    · obtain ⟨_, ⟨B', eB, F4⟩, K4, ⟨cs, hcs, lcs, fl, bd⟩, y5, y6, y7, y8, rfl⟩ := h
      refine ⟨.ref pf, rfl, pf, _, rfl, .inl ⟨SqL.of hcs, fun l nl => ?_⟩⟩
      refine q _ _ ⟨l, cs, rfl, upd_same, lcs, fl, fun i hi => ?_⟩ ((F4.new nl).mono (by omega)) (K4.trans (Kp.new nl))
      have := bd i hi
      rw [Int.toNat_of_nonneg p0]
      exact this
def spTable : Sp := fun vs H Q _ => ∃ (g : Gd) (B : Nat) (p : Addr) (n : Int) (pk : Addr) (ok : Obj) (ks : List Str) (ps pw : Addr), vs = [.ref g.d, .ref p, .bl true] ∧ Fu g B H ∧ 312 ≤ B ∧ Wl H p n pk ok ks ps pw ∧
  ∀ v H', IsTab n ks.length H' v → Fu g (B - 312) H' → Kp g H H' → Q v H'
theorem ok_table {f : Addr} {fd : FuncData} (F : Fun K "_law_table" "_law_table" s_law_table f fd) (m_range : mg "range" = none) (m_tuple : mg "tuple" = none)
    (C__law_stair : Cl P w K mg base 4 "_law_stair" ["_law_pool_here", "_law_size", "_law_place", "_law_peaks"] spStair) :
    FnOk P w K mg base CX0 5 f fd ["_law_pool_here", "_law_world_here", "_law_peaks"] spTable := by
  refine F.ok sc_law_table (fun vs H Q E h => ?_) (fun cdv A outer s H vs Q E hr h => ?_)
  · obtain ⟨g, B, p, n, pk, ok, ks, ps, pw, rfl, _⟩ := h
    rfl
  · obtain ⟨g, B, p, n, pk, ok, ks, ps, pw, rfl, hF, hB, W, q⟩ := h
    have n1 := W.n1
    have n6 := W.n6
    have k4 := W.k4
    refine ⟨_, (pss_cons (ps_set (i := 3) sc_law_table.nd rfl (.inr rfl) (pe_ix ix_tup (pv 1) pe_int (fun _ _ => rfl)))
  (pss_one (ps_ret (pe_callTy call_tuple_of (by rfl) m_tuple (by decide +kernel) (pa_cons (pe_lc (own := [("_law_kind", 4)]) (g := (gName 4)) (tt := tYes) rfl sc_law_table.nd (pi_tup (pe_ix ix_tup (pv 1) pe_int (fun _ _ => rfl))) (blkOk_by (own := [("_law_kind", 4)]) (N := ["_law_pool_here", "_law_world_here", "_law_peaks", "_law_size", "_law_kind", "_law_place"]) (sc := defScope s_law_table) (by decide +kernel)) (fun _ _ _ _ _ => (pg_name (i := 4) sc_law_table.nd rfl (.inl rfl))) (fun _ _ _ _ _ => pts_nil) (fun _ _ _ _ _ => (pe_callTy (call_tupK (K := K)) (by rfl) m_tuple (by decide +kernel) (pa_cons (pe_lc (own := [("_law_place", 5)]) (g := (gName 5)) (tt := tYes) rfl sc_law_table.nd (pi_range1 (by rfl) m_range (pa_cons (pv 3) pa_nil)) (by exact blkOk_by (own := [("_law_place", 5)]) (by rfl)) (fun _ _ _ _ _ => (pg_name (i := 5) sc_law_table.nd rfl (.inl rfl))) (fun _ _ _ _ _ => pts_nil) (fun _ _ _ _ _ => (pe_cl C__law_stair (hr.mono (by omega)) (by rfl) (pa_cons (pv 0) (pa_cons (pv 3) (pa_cons (pv 5) (pa_cons (pv 2) pa_nil))))))) pa_nil)))) pa_nil))))), ?_⟩
    refine ⟨.ref p, rfl, p, _, 0, _, rfl, rfl, SqT.of W.hp, rfl, ?_⟩
    refine ⟨.ref p, rfl, p, _, 1, _, rfl, rfl, SqT.of W.hp, rfl, pk, rfl, ⟨_, SqT.frz W.hk⟩, fun D nD => ?_⟩
    refine lcT (K := K) (xs := ks.map V.str) 78 (fun H x => ∃ (q : Addr) (sts : List V), x = .ref q ∧ H q = some (.tup sts) ∧ sts.length = n.toNat ∧ ∀ (j : Nat) y, sts[j]? = some y → Stair n H j y) (fun i acc => acc.length = i) nD hF (by rw [List.length_map]; omega) (by rw [List.length_map]; omega) (fun H' k => SqT.frz (hF.fz k W.hk)) (fun H H' x t h => ?_) rfl (fun i x H1 B1 hi F1 hB1 K1 Qk Qs qk qs => ?_) (fun H1 acc F1 K1 eD el pl al => ?_)
    · obtain ⟨q, sts, e, hq, l, a⟩ := h
      exact ⟨q, sts, e, t _ _ hq, l, fun j y hy => (a j y hy).mono t⟩
    · refine ⟨rfl, .int n, rfl, n, rfl, by omega, by omega, fun D2 nD2 => ?_⟩
      refine lcI (g := g) 13 (fun j H y => Stair n H j y) nD2 F1 (by omega) (by omega) (fun _ _ _ _ t h => h.mono t) (fun j H2 B2 hj F2 hB2 K2 Qk2 qk2 => ?_) (fun H2 sts F2 K2 eD2 el2 al2 => ?_)
      · refine ⟨rfl, .ref g.d, rfl, .int n, rfl, .int _, rfl, .bl true, rfl, g, B2, n, (0 : Int) + (j : Int), rfl, F2, hB2, n1, n6, by omega, by omega, fun v H3 sv F3 K3 => ?_⟩
        have ej : ((0 : Int) + (j : Int)).toNat = j := by omega
        rw [ej] at sv
        exact qk2 v H3 F3 K3 sv
      refine ⟨D2, sts, rfl, .inl ⟨SqL.of eD2, fun pq npq => ?_⟩⟩
      refine qk _ _ ((F2.new npq).mono (by omega)) (K2.trans (Kp.new npq)) ⟨pq, sts, rfl, upd_same, el2, fun j y hy => (al2 j y hy).mono (Tk.new npq)⟩ (fun acc h => by rw [List.length_append, h]; rfl)
    · refine ⟨D, acc, rfl, .inl ⟨SqL.of eD, fun pt npt => ?_⟩⟩
      rw [List.length_map] at pl F1
      refine q _ _ ⟨pt, acc, rfl, upd_same, pl, fun x hx => ?_⟩ ((F1.new npt).mono (by omega)) (K1.trans (Kp.new npt))
      obtain ⟨q, sts, e, hq, l, a⟩ := al x hx
      exact ⟨q, sts, e, Tk.new npt _ _ hq, l, fun j y hy => (a j y hy).mono (Tk.new npt)⟩
end
end Rt
namespace Rt
open PySem PySem.Spec PyProof.Rows L2
/-- what stands in a table's stair -/
def Cell (H : Hp) (t : Addr) (j m a : Nat) (c : Option Int) : Prop := ∃ (rows : List V) (q : Addr) (sts : List V) (r : Addr) (cs : List (Option Int)), H t = some (.tup rows) ∧ rows[j]? = some (.ref q) ∧ H q = some (.tup sts) ∧ sts[m]? = some (.ref r) ∧ H r = some (.tup (cs.map cv)) ∧ cs[a]? = some c
theorem Cell.mono {H H' : Hp} {t : Addr} {j m a : Nat} {c : Option Int} (k : Tk H H') (h : Cell H t j m a c) : Cell H' t j m a c := by
  obtain ⟨rows, q, sts, r, cs, h1, h2, h3, h4, h5, h6⟩ := h
  exact ⟨rows, q, sts, r, cs, k _ _ h1, h2, k _ _ h3, h4, k _ _ h5, h6⟩
/-- each place of a table has its cells, never rising -/
theorem IsTab.cell {n : Int} {nk : Nat} {H : Hp} {t : Addr} (h : IsTab n nk H (.ref t)) {j m : Nat} (hj : j < nk) (hm : m < n.toNat) : ∃ cs : List (Option Int), cs.length = 27 ∧ Fall cs ∧ (∀ i, some i ∈ cs → i % n = m ∧ -20 ≤ i ∧ i ≤ 3000000000000000) ∧ ∀ (a : Nat) c, cs[a]? = some c → Cell H t j m a c := by
  obtain ⟨p, rows, e, hp, l, al⟩ := h
  cases e
  have hr : j < rows.length := by omega
  obtain ⟨q, sts, e2, hq, l2, b⟩ := al _ (List.getElem_mem hr)
  have hs : m < sts.length := by omega
  obtain ⟨r, cs, e3, hcs, l3, fl, bd⟩ := b m _ (List.getElem?_eq_getElem hs)
  exact ⟨cs, l3, fl, bd, fun a c hc => ⟨rows, q, sts, r, cs, hp, by rw [List.getElem?_eq_getElem hr, e2], hq, by rw [List.getElem?_eq_getElem hs, e3], hcs, hc⟩⟩
def hasB (c : Option Int) (x : Int) : Bool := match c with
  | none => false
  | some i => decide (i ≤ x)
theorem first_at {ks : List Str} {z : Str} (h : z ∈ ks) : ∃ j : Nat, j < ks.length ∧ ks[j]? = some z ∧ ∀ m, m < j → ks[m]? ≠ some z := by
  induction ks with
  | nil => exact nomatch h
  | cons k r ih =>
    by_cases e : k = z
    · exact ⟨0, by simp, by rw [e]; rfl, fun m hm => absurd hm (Nat.not_lt_zero _)⟩
    · have hr : z ∈ r := by
        rcases List.mem_cons.mp h with q | q
        · exact absurd q.symm e
        · exact q
      obtain ⟨j, a, b, c⟩ := ih hr
      refine ⟨j + 1, by simp; exact a, b, fun m hm => ?_⟩
      cases m with
      | zero => exact fun q => e (Option.some.inj q)
      | succ m => exact c m (by omega)
section
variable {P : Program} {w : World} {K : PySem.W.Frag} {mg : Str → Option Value} {base : Heap}
def spHas : Sp := fun vs H Q _ => ∃ (p : Addr) (n : Int) (pk : Addr) (ok : Obj) (ks : List Str) (ps pw t : Addr) (kd : Str) (x ag : Int) (j : Nat) (c : Option Int), vs = [.ref p, .ref t, .str kd, .int x, .int ag] ∧ Wl H p n pk ok ks ps pw ∧ 0 ≤ ag ∧ ks[j]? = some kd ∧ (∀ m, m < j → ks[m]? ≠ some kd) ∧ Cell H t j (x % n).toNat (min ag.toNat 26) c ∧
  ∀ b : Bool, b = hasB c x → Q (.bl b) H
def spStands : Sp := fun vs H Q _ => ∃ (p : Addr) (n : Int) (pk : Addr) (ok : Obj) (ks : List Str) (ps pw t : Addr) (kd : Str) (x ag : Int) (j : Nat) (c : Option Int), vs = [.ref p, .ref t, .str kd, .int x, .int ag] ∧ Wl H p n pk ok ks ps pw ∧ 0 ≤ ag ∧ ks[j]? = some kd ∧ (∀ m, m < j → ks[m]? ≠ some kd) ∧ Cell H t j (x % n).toNat (min ag.toNat 26) c ∧ Q (cv c) H
theorem min26 {ag : Int} (h : 0 ≤ ag) : (if (26 : Int) < ag then (26 : Int) else ag) = ((min ag.toNat 26 : Nat) : Int) := by
  split <;> omega
theorem ok_stands {f : Addr} {fd : FuncData} (F : Fun K "_law_stands" "_law_stands" s_law_stands f fd) (m_min : mg "min" = none) : FnOk P w K mg base CX0 1 f fd ["_law_world_here", "_law_sheet", "_law_kind", "_law_place", "_law_age"] spStands := by
  refine F.ok sc_law_stands (fun vs H Q E h => ?_) (fun cdv A outer s H vs Q E hr h => ?_)
  · obtain ⟨p, n, pk, ok, ks, ps, pw, t, kd, x, ag, j, c, rfl, _⟩ := h
    rfl
  · obtain ⟨p, n, pk, ok, ks, ps, pw, t, kd, x, ag, j, c, rfl, W, ag0, hj, hno, ⟨rows, q1, sts, r, cs, h1, h2, h3, h4, h5, h6⟩, q⟩ := h
    have n1 := W.n1
    refine ⟨_, (pss_one (ps_ret (pe_ix ix_tup (pe_ix ix_tup (pe_ix ix_tup (pv 1) (pe_idxF (pe_ix ix_tup (pv 0) pe_int (fun _ _ => rfl)) (pa_cons (pv 2) pa_nil)) (fun _ _ => rfl)) (pe_op op_modL (pv 3) (pe_ix ix_tup (pv 0) pe_int (fun _ _ => rfl))) (fun _ _ => rfl)) (pe_callB (call_min2 rfl) (by rfl) m_min (by decide +kernel) (pa_cons (pv 4) (pa_cons pe_int pa_nil))) (fun _ _ => rfl)))), ?_⟩
    refine ⟨.ref t, rfl, .ref p, rfl, p, _, 1, _, rfl, rfl, SqT.of W.hp, rfl, pk, ok, ks, rfl, W.hk, W.dk, .str kd, rfl, kd, j, rfl, SqT.frz W.hk, hj, hno, t, rows, (j : Int), _, rfl, rfl, SqT.of h1, atI_nat h2, ?_⟩
    refine ⟨.int x, rfl, .ref p, rfl, p, _, 0, _, rfl, rfl, SqT.of W.hp, rfl, x, n, rfl, rfl, by omega, fun z ez z0 z1 => ⟨q1, sts, z, .ref r, rfl, rfl, SqT.of h3, ?_, .int ag, rfl, ag, 26, rfl, r, _, ((min ag.toNat 26 : Nat) : Int), cv c, rfl, ?_, SqT.of h5, atI_nat (by rw [List.getElem?_map, h6]; rfl), q⟩⟩
    · have := atI_nat h4
      rw [Int.toNat_of_nonneg (by rw [← ez]; exact z0), ← ez] at this
      exact this
    · rw [min26 ag0]
theorem ok_lhas {f : Addr} {fd : FuncData} (F : Fun K "_law_has" "_law_has" s_law_has f fd) (C__law_stands : Cl P w K mg base 1 "_law_stands" ["_law_world_here", "_law_sheet", "_law_kind", "_law_place", "_law_age"] spStands) : FnOk P w K mg base CX0 2 f fd ["_law_world_here", "_law_sheet", "_law_kind", "_law_origin_here", "_law_age"] spHas := by
  refine F.ok sc_law_has (fun vs H Q E h => ?_) (fun cdv A outer s H vs Q E hr h => ?_)
  · obtain ⟨p, n, pk, ok, ks, ps, pw, t, kd, x, ag, j, c, rfl, _⟩ := h
    rfl
  · obtain ⟨p, n, pk, ok, ks, ps, pw, t, kd, x, ag, j, c, rfl, W, ag0, hj, hno, hc, q⟩ := h
    refine ⟨_, (pss_cons (ps_set (i := 5) sc_law_has.nd rfl (.inl rfl) (pe_cl C__law_stands (hr.mono (by omega)) (by rfl) (pa_cons (pv 0) (pa_cons (pv 1) (pa_cons (pv 2) (pa_cons (pv 3) (pa_cons (pv 4) pa_nil)))))))
  (pss_one (ps_ret (pe_and (pe_cmpR op_notN (pv 5) pe_non (nomark _)) (pe_one (pe_cmpR op_le (pv 5) (pv 3) (nomark _))))))), ?_⟩
    refine ⟨.ref p, rfl, .ref t, rfl, .str kd, rfl, .int x, rfl, .int ag, rfl, p, n, pk, ok, ks, ps, pw, t, kd, x, ag, j, c, rfl, W, ag0, hj, hno, hc, ?_⟩
    cases c with
    | none => exact ⟨.non, rfl, rfl, _, rfl, q _ rfl⟩
    | some i => exact ⟨.int i, rfl, rfl, _, rfl, .int i, rfl, .int x, rfl, i, x, rfl, rfl, q _ rfl⟩
end
end Rt
namespace Rt
open PySem PySem.Spec PyProof.Rows L2
section
variable {P : Program} {w : World} {K : PySem.W.Frag} {mg : Str → Option Value} {base : Heap}
def spPlace : Sp := fun vs H Q _ => ∃ (p : Addr) (n x : Int) (rest : List V), vs = [.ref p, .int x] ∧ H p = some (.tup (.int n :: rest)) ∧ 1 ≤ n ∧ ∀ z : Int, z = x % n → 0 ≤ z → z < n → Q (.int z) H
theorem ok_place {f : Addr} {fd : FuncData} (F : Fun K "place_of" "place_of" s_place_of f fd) : FnOk P w K mg base CX0 1 f fd ["world", "number"] spPlace := by
  refine F.ok sc_place_of (fun vs H Q E h => ?_) (fun cdv A outer s H vs Q E hr h => ?_)
  · obtain ⟨p, n, x, rest, rfl, _⟩ := h
    rfl
  · obtain ⟨p, n, x, rest, rfl, hp, n1, q⟩ := h
    refine ⟨_, (pss_one (ps_ret (pe_op op_modL (pv 1) (pe_ix ix_tup (pv 0) pe_int (fun _ _ => rfl))))), ?_⟩
    exact ⟨.int x, rfl, .ref p, rfl, p, _, 0, _, rfl, rfl, SqT.of hp, atI_nat (j := 0) rfl, x, n, rfl, rfl, by omega, q⟩
theorem ok_has {f : Addr} {fd : FuncData} {tk : Tok} (F : Fun K "has" "has" s_has f fd) (m_min : mg "min" = none) (g_READY : mg "READY" = some (.int 26 tk)) (C_place_of : Cl P w K mg base 1 "place_of" ["world", "number"] spPlace) : FnOk P w K mg base CX0 2 f fd ["world", "table", "kind", "origin", "age"] spHas := by
  refine F.ok sc_has (fun vs H Q E h => ?_) (fun cdv A outer s H vs Q E hr h => ?_)
  · obtain ⟨p, n, pk, ok, ks, ps, pw, t, kd, x, ag, j, c, rfl, _⟩ := h
    rfl
  · obtain ⟨p, n, pk, ok, ks, ps, pw, t, kd, x, ag, j, c, rfl, W, ag0, hj, hno, ⟨rows, q1, sts, r, cs, h1, h2, h3, h4, h5, h6⟩, q⟩ := h
    have n1 := W.n1
    refine ⟨_, (pss_cons (ps_if (pt_cmpR op_lt (pv 4) pe_int (nomark _))
    (pss_one (ps_ret pe_bl))
    pss_nil)
  (pss_cons (ps_set (i := 5) sc_has.nd rfl (.inl rfl) (pe_ix ix_tup (pe_ix ix_tup (pe_ix ix_tup (pv 1) (pe_idxF (pe_ix ix_tup (pv 0) pe_int (fun _ _ => rfl)) (pa_cons (pv 2) pa_nil)) (fun _ _ => rfl)) (pe_cl C_place_of (hr.mono (by omega)) (by rfl) (pa_cons (pv 0) (pa_cons (pv 3) pa_nil))) (fun _ _ => rfl)) (pe_callB (call_min2 rfl) (by rfl) m_min (by decide +kernel) (pa_cons (pv 4) (pa_cons (pe_glob (v := .int 26) (by rfl) g_READY ⟨_, rfl⟩) pa_nil))) (fun _ _ => rfl)))
  (pss_one (ps_ret (pe_and (pe_cmpR op_notN (pv 5) pe_non (nomark _)) (pe_one (pe_cmpR op_le (pv 5) (pv 3) (nomark _)))))))), ?_⟩
    dsimp only [tSeq, tNext]
    refine ifF (fun Q1 q1 => ?_) ?_
    · refine ⟨.int ag, rfl, ag, 0, rfl, rfl, _, rfl, ?_⟩
      rw [decide_eq_false (by omega)]
      exact q1
    refine ⟨.ref t, rfl, .ref p, rfl, p, _, 1, _, rfl, rfl, SqT.of W.hp, rfl, pk, ok, ks, rfl, W.hk, W.dk, .str kd, rfl, kd, j, rfl, SqT.frz W.hk, hj, hno, t, rows, (j : Int), _, rfl, rfl, SqT.of h1, atI_nat h2, ?_⟩
    refine ⟨.ref p, rfl, .int x, rfl, p, n, x, _, rfl, W.hp, n1, fun z ez z0 z1 => ⟨q1, sts, z, .ref r, rfl, rfl, SqT.of h3, ?_, .int ag, rfl, ag, 26, rfl, r, _, ((min ag.toNat 26 : Nat) : Int), cv c, rfl, ?_, SqT.of h5, atI_nat (by rw [List.getElem?_map, h6]; rfl), ?_⟩⟩
    · have := atI_nat h4
      rw [Int.toNat_of_nonneg (by rw [← ez]; exact z0), ← ez] at this
      exact this
    · rw [min26 ag0]
    · cases c with
      | none => exact ⟨.non, rfl, rfl, _, rfl, q _ rfl⟩
      | some i => exact ⟨.int i, rfl, rfl, _, rfl, .int i, rfl, .int x, rfl, i, x, rfl, rfl, q _ rfl⟩
end
end Rt
namespace Rt
open PySem PySem.Spec PyProof.Rows L2
/-! ### tables as numbers -/
def Al {α β : Type} (R : α → β → Prop) (xs : List α) (ys : List β) : Prop := xs.length = ys.length ∧ ∀ (i : Nat) x y, xs[i]? = some x → ys[i]? = some y → R x y
theorem Al.mono {α β : Type} {R R' : α → β → Prop} {xs : List α} {ys : List β} (h : Al R xs ys) (m : ∀ x y, R x y → R' x y) : Al R' xs ys := ⟨h.1, fun i x y a b => m _ _ (h.2 i x y a b)⟩
theorem Al.at {α β : Type} {R : α → β → Prop} {xs : List α} {ys : List β} (h : Al R xs ys) {i : Nat} {y : β} (hy : ys[i]? = some y) : ∃ x, xs[i]? = some x ∧ R x y := by
  have hi : i < ys.length := (List.getElem?_eq_some_iff.mp hy).1
  have hx : i < xs.length := by rw [h.1]; exact hi
  exact ⟨xs[i], List.getElem?_eq_getElem hx, h.2 i _ _ (List.getElem?_eq_getElem hx) hy⟩
theorem Al.to {α β : Type} {R : α → β → Prop} {xs : List α} {ys : List β} (h : Al R xs ys) {i : Nat} {x : α} (hx : xs[i]? = some x) : ∃ y, ys[i]? = some y ∧ R x y := by
  have hi : i < xs.length := (List.getElem?_eq_some_iff.mp hx).1
  have hy : i < ys.length := by rw [← h.1]; exact hi
  exact ⟨ys[i], List.getElem?_eq_getElem hy, h.2 i _ _ hx (List.getElem?_eq_getElem hy)⟩
theorem Al.nil {α β : Type} {R : α → β → Prop} : Al R ([] : List α) ([] : List β) := ⟨rfl, fun i x y h => nomatch h⟩
theorem Al.cons {α β : Type} {R : α → β → Prop} {x : α} {y : β} {xs : List α} {ys : List β} (a : R x y) (h : Al R xs ys) : Al R (x :: xs) (y :: ys) := by
  refine ⟨by rw [List.length_cons, List.length_cons, h.1], fun i u v hu hv => ?_⟩
  cases i with
  | zero => cases hu; cases hv; exact a
  | succ i => exact h.2 i u v hu hv
/-- of each there is one, with its place -/
theorem al_pick {α β : Type} : ∀ {xs : List α} {R : Nat → α → β → Prop}, (∀ (i : Nat) x, xs[i]? = some x → ∃ y, R i x y) → ∃ ys : List β, xs.length = ys.length ∧ ∀ (i : Nat) x y, xs[i]? = some x → ys[i]? = some y → R i x y
  | [], R, h => ⟨[], rfl, fun i x y h => nomatch h⟩
  | x :: r, R, h => by
    obtain ⟨y, hy⟩ := h 0 x rfl
    obtain ⟨ys, l, a⟩ := al_pick (xs := r) (R := fun i => R (i + 1)) fun i x hx => h (i + 1) x hx
    refine ⟨y :: ys, by rw [List.length_cons, List.length_cons, l], fun i u v hu hv => ?_⟩
    cases i with
    | zero => cases hu; cases hv; exact hy
    | succ i => exact a i u v hu hv
abbrev Mt := List (List (List (Option Int)))
def Ste (H : Hp) (v : V) (cs : List (Option Int)) : Prop := ∃ r, v = .ref r ∧ H r = some (.tup (cs.map cv))
def Rwe (H : Hp) (v : V) (css : List (List (Option Int))) : Prop := ∃ q xs, v = .ref q ∧ H q = some (.tup xs) ∧ Al (Ste H) xs css
def Tbe (H : Hp) (v : V) (T : Mt) : Prop := ∃ t xs, v = .ref t ∧ H t = some (.tup xs) ∧ Al (Rwe H) xs T
theorem Ste.mono {H H' : Hp} {v : V} {cs : List (Option Int)} (k : Tk H H') (h : Ste H v cs) : Ste H' v cs := by
  obtain ⟨r, e, a⟩ := h
  exact ⟨r, e, k _ _ a⟩
theorem Rwe.mono {H H' : Hp} {v : V} {cs : List (List (Option Int))} (k : Tk H H') (h : Rwe H v cs) : Rwe H' v cs := by
  obtain ⟨r, xs, e, a, b⟩ := h
  exact ⟨r, xs, e, k _ _ a, b.mono fun _ _ z => z.mono k⟩
theorem Tbe.mono {H H' : Hp} {v : V} {T : Mt} (k : Tk H H') (h : Tbe H v T) : Tbe H' v T := by
  obtain ⟨r, xs, e, a, b⟩ := h
  exact ⟨r, xs, e, k _ _ a, b.mono fun _ _ z => z.mono k⟩
structure Dim (n : Int) (nk : Nat) (T : Mt) : Prop where
  rows : T.length = nk
  cols : ∀ (j : Nat) r, T[j]? = some r → r.length = n.toNat
  len : ∀ (j : Nat) r (m : Nat) c, T[j]? = some r → r[m]? = some c → c.length = 27
  bd : ∀ (j : Nat) r (m : Nat) c, T[j]? = some r → r[m]? = some c → ∀ i, some i ∈ c → i % n = m ∧ -20 ≤ i ∧ i ≤ 3000000000000000
theorem IsTab.mt {n : Int} {nk : Nat} {H : Hp} {v : V} (h : IsTab n nk H v) : ∃ T : Mt, Tbe H v T ∧ Dim n nk T := by
  obtain ⟨p, rows, rfl, hp, lr, al⟩ := h
  obtain ⟨T, lT, hT⟩ := al_pick (xs := rows) (R := fun _ x css => Rwe H x css ∧ css.length = n.toNat ∧ ∀ (m : Nat) c, css[m]? = some c → c.length = 27 ∧ ∀ i, some i ∈ c → i % n = m ∧ -20 ≤ i ∧ i ≤ 3000000000000000) (fun i x hx => by
    obtain ⟨q, sts, rfl, hq, ls, bs⟩ := al x (List.mem_of_getElem? hx)
    obtain ⟨css, lc, hc⟩ := al_pick (xs := sts) (R := fun m x c => Ste H x c ∧ c.length = 27 ∧ ∀ i, some i ∈ c → i % n = m ∧ -20 ≤ i ∧ i ≤ 3000000000000000) (fun m y hy => by
      obtain ⟨r, cs, rfl, hr, l, _, bd⟩ := bs m y hy
      exact ⟨cs, ⟨r, rfl, hr⟩, l, bd⟩)
    refine ⟨css, ⟨q, sts, rfl, hq, lc, fun m y c hy hc2 => (hc m y c hy hc2).1⟩, by omega, fun m c hc2 => ?_⟩
    have hm : m < sts.length := by rw [lc]; exact (List.getElem?_eq_some_iff.mp hc2).1
    exact (hc m _ c (List.getElem?_eq_getElem hm) hc2).2)
  have key : ∀ (j : Nat) r, T[j]? = some r → r.length = n.toNat ∧ ∀ (m : Nat) c, r[m]? = some c → c.length = 27 ∧ ∀ i, some i ∈ c → i % n = m ∧ -20 ≤ i ∧ i ≤ 3000000000000000 := fun j r hr => by
    have hj : j < rows.length := by rw [lT]; exact (List.getElem?_eq_some_iff.mp hr).1
    exact (hT j _ r (List.getElem?_eq_getElem hj) hr).2
  exact ⟨T, ⟨p, rows, rfl, hp, lT, fun i x y a b => (hT i x y a b).1⟩, ⟨by omega, fun j r hr => (key j r hr).1, fun j r m c hr hc => ((key j r hr).2 m c hc).1, fun j r m c hr hc => ((key j r hr).2 m c hc).2⟩⟩
/-! numbers beside numbers -/
def aboveB : Option Int → Option Int → Bool
  | none, none => false
  | none, some _ => true
  | some _, none => false
  | some a, some b => decide (b < a)
def hiO (a b : Option Int) : Option Int := if aboveB a b = true then a else b
def loO (a b : Option Int) : Option Int := if aboveB a b = true then b else a
/-- what has b has a, too -/
def lec : Option Int → Option Int → Prop
  | none, _ => True
  | some _, none => False
  | some y, some x => x ≤ y
theorem hi_eq {a b : Option Int} : hiO a b = a ↔ lec a b := by
  cases a <;> cases b <;> simp [hiO, aboveB, lec] <;> omega
theorem lec_refl (a : Option Int) : lec a a := by cases a <;> simp [lec]
theorem lec_trans {a b c : Option Int} (h : lec a b) (k : lec b c) : lec a c := by
  cases a <;> cases b <;> cases c <;> simp_all [lec] <;> omega
theorem lec_anti {a b : Option Int} (h : lec a b) (k : lec b a) : a = b := by
  cases a <;> cases b <;> simp_all [lec] <;> omega
theorem hi_or (a b : Option Int) : hiO a b = a ∨ hiO a b = b := by
  unfold hiO
  split
  · exact .inl rfl
  · exact .inr rfl
theorem lo_or (a b : Option Int) : loO a b = a ∨ loO a b = b := by
  unfold loO
  split
  · exact .inr rfl
  · exact .inl rfl
theorem lec_hi {i a b : Option Int} (h : lec i a) (k : lec i b) : lec i (hiO a b) := by
  rcases hi_or a b with e | e <;> rw [e] <;> assumption
theorem above_yes {a b : Option Int} (h : aboveB a b = true) : lec a b := by
  cases a <;> cases b <;> simp_all [aboveB, lec] <;> omega
theorem above_no {a b : Option Int} (h : ¬ aboveB a b = true) : lec b a := by
  cases a <;> cases b <;> simp_all [aboveB, lec]
theorem hi_lec1 (a b : Option Int) : lec (hiO a b) a := by
  by_cases h : aboveB a b = true
  · rw [hiO, if_pos h]; exact lec_refl _
  · rw [hiO, if_neg h]; exact above_no h
theorem hi_lec2 (a b : Option Int) : lec (hiO a b) b := by
  by_cases h : aboveB a b = true
  · rw [hiO, if_pos h]; exact above_yes h
  · rw [hiO, if_neg h]; exact lec_refl _
theorem lo_lec {a b k : Option Int} (h : lec a k) (h2 : lec b k) : lec (loO a b) k := by
  rcases lo_or a b with e | e <;> rw [e] <;> assumption
theorem lec_lo1 (a b : Option Int) : lec a (loO a b) := by
  by_cases h : aboveB a b = true
  · rw [loO, if_pos h]; exact above_yes h
  · rw [loO, if_neg h]; exact lec_refl _
theorem lec_lo2 (a b : Option Int) : lec b (loO a b) := by
  by_cases h : aboveB a b = true
  · rw [loO, if_pos h]; exact lec_refl _
  · rw [loO, if_neg h]; exact above_no h
theorem none_lec (a : Option Int) : lec none a := trivial
def zipM (f : Option Int → Option Int → Option Int) (A B : Mt) : Mt := List.zipWith (List.zipWith (List.zipWith f)) A B
/-- cell by cell -/
def LeM (A B : Mt) : Prop := ∀ (j m a : Nat) r s c d x y, A[j]? = some r → B[j]? = some s → r[m]? = some c → s[m]? = some d → c[a]? = some x → d[a]? = some y → lec x y
noncomputable instance (A B : Mt) : Decidable (LeM A B) := Classical.propDecidable _
theorem ext_q {α : Type} {xs ys : List α} (l : xs.length = ys.length) (h : ∀ (i : Nat) x y, xs[i]? = some x → ys[i]? = some y → x = y) : xs = ys := by
  apply List.ext_getElem l
  intro i h1 h2
  exact h i _ _ (List.getElem?_eq_getElem h1) (List.getElem?_eq_getElem h2)
theorem zip_at {α β γ : Type} {f : α → β → γ} {xs : List α} {ys : List β} {i : Nat} {z : γ} : (List.zipWith f xs ys)[i]? = some z ↔ ∃ x y, xs[i]? = some x ∧ ys[i]? = some y ∧ f x y = z := by
  rw [List.getElem?_zipWith]
  cases xs[i]? <;> cases ys[i]? <;> simp
theorem Dim.zip {n : Int} {nk : Nat} {A B : Mt} {f : Option Int → Option Int → Option Int} (hf : ∀ a b, f a b = a ∨ f a b = b) (a : Dim n nk A) (b : Dim n nk B) : Dim n nk (zipM f A B) := by
  refine ⟨?_, fun j r h => ?_, fun j r m c h k => ?_, fun j r m c h k i hi => ?_⟩
  · show (List.zipWith _ A B).length = nk
    rw [List.length_zipWith, a.rows, b.rows, Nat.min_self]
  · obtain ⟨x, y, hx, hy, rfl⟩ := zip_at.mp h
    rw [List.length_zipWith, a.cols _ _ hx, b.cols _ _ hy, Nat.min_self]
  · obtain ⟨x, y, hx, hy, rfl⟩ := zip_at.mp h
    obtain ⟨u, v, hu, hv, rfl⟩ := zip_at.mp k
    rw [List.length_zipWith, a.len _ _ _ _ hx hu, b.len _ _ _ _ hy hv, Nat.min_self]
  · obtain ⟨x, y, hx, hy, rfl⟩ := zip_at.mp h
    obtain ⟨u, v, hu, hv, rfl⟩ := zip_at.mp k
    obtain ⟨q, hq⟩ := List.mem_iff_getElem?.mp hi
    obtain ⟨c, d, hc, hd, e⟩ := zip_at.mp hq
    rcases hf c d with z | z
    · rw [z] at e
      exact a.bd _ _ _ _ hx hu i (e ▸ List.mem_of_getElem? hc)
    · rw [z] at e
      exact b.bd _ _ _ _ hy hv i (e ▸ List.mem_of_getElem? hd)
/-- the cells beside each other -/
theorem Dim.beside {n : Int} {nk : Nat} {A B : Mt} (a : Dim n nk A) (b : Dim n nk B) {j m i : Nat} {r : List (List (Option Int))} {c : List (Option Int)} {x : Option Int} (h1 : A[j]? = some r) (h2 : r[m]? = some c) (h3 : c[i]? = some x) : ∃ s d y, B[j]? = some s ∧ s[m]? = some d ∧ d[i]? = some y := by
  have k1 : j < B.length := by rw [b.rows, ← a.rows]; exact (List.getElem?_eq_some_iff.mp h1).1
  have e1 := List.getElem?_eq_getElem k1
  have k2 : m < (B[j]).length := by rw [b.cols _ _ e1, ← a.cols _ _ h1]; exact (List.getElem?_eq_some_iff.mp h2).1
  have e2 := List.getElem?_eq_getElem k2
  have k3 : i < (B[j][m]).length := by rw [b.len _ _ _ _ e1 e2, ← a.len _ _ _ _ h1 h2]; exact (List.getElem?_eq_some_iff.mp h3).1
  exact ⟨_, _, _, e1, e2, List.getElem?_eq_getElem k3⟩
theorem le_iff {n : Int} {nk : Nat} {A B : Mt} (a : Dim n nk A) (b : Dim n nk B) : zipM hiO A B = A ↔ LeM A B := by
  constructor
  · intro e j m i r s c d x y h1 h2 h3 h4 h5 h6
    have z1 : (zipM hiO A B)[j]? = some (List.zipWith (List.zipWith hiO) r s) := zip_at.mpr ⟨r, s, h1, h2, rfl⟩
    rw [e, h1] at z1
    have z1 := Option.some.inj z1
    have z2 : (List.zipWith (List.zipWith hiO) r s)[m]? = some (List.zipWith hiO c d) := zip_at.mpr ⟨c, d, h3, h4, rfl⟩
    rw [← z1, h3] at z2
    have z2 := Option.some.inj z2
    have z3 : (List.zipWith hiO c d)[i]? = some (hiO x y) := zip_at.mpr ⟨x, y, h5, h6, rfl⟩
    rw [← z2, h5] at z3
    exact hi_eq.mp (Option.some.inj z3).symm
  · intro h
    have z := a.zip hi_or b
    refine ext_q (by rw [z.rows, a.rows]) fun j r' r hr' hr => ?_
    obtain ⟨r1, s, e1, e2, rfl⟩ := zip_at.mp hr'
    rw [hr] at e1
    cases e1
    refine ext_q (by rw [z.cols _ _ hr', a.cols _ _ hr]) fun m c' c hc' hc => ?_
    obtain ⟨c1, d, e3, e4, rfl⟩ := zip_at.mp hc'
    rw [hc] at e3
    cases e3
    refine ext_q (by rw [z.len _ _ _ _ hr' hc', a.len _ _ _ _ hr hc]) fun i x' x hx' hx => ?_
    obtain ⟨x1, y, e5, e6, rfl⟩ := zip_at.mp hx'
    rw [hx] at e5
    cases e5
    exact hi_eq.mpr (h j m i r s c d x y hr e2 hc e4 hx e6)
theorem le_refl (A : Mt) : LeM A A := fun j m i r s c d x y h1 h2 h3 h4 h5 h6 => by
  rw [h1] at h2; cases h2
  rw [h3] at h4; cases h4
  rw [h5] at h6; cases h6
  exact lec_refl x
theorem le_trans {n : Int} {nk : Nat} {A B C : Mt} (a : Dim n nk A) (b : Dim n nk B) (h : LeM A B) (k : LeM B C) : LeM A C := fun j m i r s c d x y h1 h2 h3 h4 h5 h6 => by
  obtain ⟨t, e, z, q1, q2, q3⟩ := a.beside b h1 h3 h5
  exact lec_trans (h j m i r t c e x z h1 q1 h3 q2 h5 q3) (k j m i t s e d z y q1 h2 q2 h4 q3 h6)
theorem le_anti {n : Int} {nk : Nat} {A B : Mt} (a : Dim n nk A) (b : Dim n nk B) (h : LeM A B) (k : LeM B A) : A = B :=
  ext_q (by rw [a.rows, b.rows]) fun j r s hr hs => ext_q (by rw [a.cols _ _ hr, b.cols _ _ hs]) fun m c d hc hd => ext_q (by rw [a.len _ _ _ _ hr hc, b.len _ _ _ _ hs hd]) fun i x y hx hy =>
    lec_anti (h j m i r s c d x y hr hs hc hd hx hy) (k j m i s r d c y x hs hr hd hc hy hx)
theorem zipM_at {f : Option Int → Option Int → Option Int} {A B : Mt} {j m i : Nat} {r : List (List (Option Int))} {c : List (Option Int)} {x : Option Int} (h1 : (zipM f A B)[j]? = some r) (h2 : r[m]? = some c) (h3 : c[i]? = some x) :
    ∃ r1 r2 c1 c2 x1 x2, A[j]? = some r1 ∧ B[j]? = some r2 ∧ r1[m]? = some c1 ∧ r2[m]? = some c2 ∧ c1[i]? = some x1 ∧ c2[i]? = some x2 ∧ x = f x1 x2 := by
  obtain ⟨r1, r2, a1, a2, rfl⟩ := zip_at.mp h1
  obtain ⟨c1, c2, b1, b2, rfl⟩ := zip_at.mp h2
  obtain ⟨x1, x2, d1, d2, rfl⟩ := zip_at.mp h3
  exact ⟨r1, r2, c1, c2, x1, x2, a1, a2, b1, b2, d1, d2, rfl⟩
theorem le_hi {I A B : Mt} (h : LeM I A) (k : LeM I B) : LeM I (zipM hiO A B) := fun j m i r s c d x y h1 h2 h3 h4 h5 h6 => by
  obtain ⟨r1, r2, c1, c2, x1, x2, a1, a2, b1, b2, d1, d2, rfl⟩ := zipM_at h2 h4 h6
  exact lec_hi (h j m i r r1 c c1 x x1 h1 a1 h3 b1 h5 d1) (k j m i r r2 c c2 x x2 h1 a2 h3 b2 h5 d2)
theorem hi_le1 {A B : Mt} : LeM (zipM hiO A B) A := fun j m i r s c d x y h1 h2 h3 h4 h5 h6 => by
  obtain ⟨r1, r2, c1, c2, x1, x2, a1, a2, b1, b2, d1, d2, rfl⟩ := zipM_at h1 h3 h5
  rw [h2] at a1; cases a1
  rw [h4] at b1; cases b1
  rw [h6] at d1; cases d1
  exact hi_lec1 _ _
theorem hi_le2 {A B : Mt} : LeM (zipM hiO A B) B := fun j m i r s c d x y h1 h2 h3 h4 h5 h6 => by
  obtain ⟨r1, r2, c1, c2, x1, x2, a1, a2, b1, b2, d1, d2, rfl⟩ := zipM_at h1 h3 h5
  rw [h2] at a2; cases a2
  rw [h4] at b2; cases b2
  rw [h6] at d2; cases d2
  exact hi_lec2 _ _
theorem lo_le {A B C : Mt} (h : LeM A C) (k : LeM B C) : LeM (zipM loO A B) C := fun j m i r s c d x y h1 h2 h3 h4 h5 h6 => by
  obtain ⟨r1, r2, c1, c2, x1, x2, a1, a2, b1, b2, d1, d2, rfl⟩ := zipM_at h1 h3 h5
  exact lo_lec (h j m i r1 s c1 d x1 y a1 h2 b1 h4 d1 h6) (k j m i r2 s c2 d x2 y a2 h2 b2 h4 d2 h6)
theorem le_lo1 {A B : Mt} : LeM A (zipM loO A B) := fun j m i r s c d x y h1 h2 h3 h4 h5 h6 => by
  obtain ⟨r1, r2, c1, c2, x1, x2, a1, a2, b1, b2, d1, d2, rfl⟩ := zipM_at h2 h4 h6
  rw [h1] at a1; cases a1
  rw [h3] at b1; cases b1
  rw [h5] at d1; cases d1
  exact lec_lo1 _ _
theorem le_lo2 {A B : Mt} : LeM B (zipM loO A B) := fun j m i r s c d x y h1 h2 h3 h4 h5 h6 => by
  obtain ⟨r1, r2, c1, c2, x1, x2, a1, a2, b1, b2, d1, d2, rfl⟩ := zipM_at h2 h4 h6
  rw [h1] at a2; cases a2
  rw [h3] at b2; cases b2
  rw [h5] at d2; cases d2
  exact lec_lo2 _ _
/-! a table as data -/
def cD : Option Int → PyData
  | none => .none
  | some i => .int i
def mD (T : Mt) : PyData := .tuple (T.map fun r => .tuple (r.map fun c => .tuple (c.map cD)))
theorem tdAll_of {H : Hp} : ∀ {xs : List V} {ds : List PyData}, Al (Td H) xs ds → TdAll H xs ds
  | [], [], _ => .nil
  | [], _ :: _, h => nomatch h.1
  | _ :: _, [], h => nomatch h.1
  | x :: xs, d :: ds, h => .cons (h.2 0 x d rfl rfl) (tdAll_of ⟨Nat.succ.inj h.1, fun i u v a b => h.2 (i + 1) u v a b⟩)
theorem Al.map {α β γ : Type} {R : α → γ → Prop} {xs : List α} {ys : List β} {f : β → γ} (h : Al (fun x y => R x (f y)) xs ys) : Al R xs (ys.map f) := by
  refine ⟨by rw [List.length_map]; exact h.1, fun i x z hx hz => ?_⟩
  rw [List.getElem?_map] at hz
  cases e : ys[i]? with
  | none => rw [e] at hz; cases hz
  | some y =>
    rw [e] at hz
    cases hz
    exact h.2 i x y hx e
theorem td_cv {H : Hp} : ∀ c, Td H (cv c) (cD c)
  | none => .non
  | some i => .int i
theorem td_cvs {H : Hp} : ∀ cs : List (Option Int), TdAll H (cs.map cv) (cs.map cD)
  | [] => .nil
  | c :: cs => .cons (td_cv c) (td_cvs cs)
theorem Tbe.td {H : Hp} {v : V} {T : Mt} (h : Tbe H v T) : Td H v (mD T) := by
  obtain ⟨t, xs, rfl, ht, al⟩ := h
  refine .tup ht (tdAll_of (Al.map (al.mono fun x r hx => ?_)))
  obtain ⟨q, ys, rfl, hq, bl⟩ := hx
  refine .tup hq (tdAll_of (Al.map (bl.mono fun y c hy => ?_)))
  obtain ⟨r, rfl, hr⟩ := hy
  exact .tup hr (td_cvs c)
end Rt
namespace Rt
open PySem PySem.Spec PyProof.Rows L2
theorem same_tk {H H' : Hp} (s : Same H H') : Tk H H' := fun p xs e => s p _ e
theorem pi_zipK {X : Cx} {K : PySem.W.Frag} {e e2 : Expr} {ta : TA} {p pos tpos : Pos} {elts : List Expr} {kk : Nat} (hg : Gl X "zip") (hm : X.mg "zip" = none) (ha : PA X [e, e2] ta) (ek : X.K = K := by rfl)
    (hs : starEach [e, e2] X.env = (false, eval e X.env) :: starEach [e2] X.env := by rfl) (hpl : (backTo pos (starEach [e2] X.env)).any (·.1) = false := by rfl) :
    PI X (.Tuple elts kk tpos) (.Call (.Name "zip" p) [e, e2] [] pos) (RZ.iZipA K ta) := by
  subst ek
  exact RZ.pi_zipA hg hm ha hs hpl
theorem walk_zipT {K : PySem.W.Frag} {a b : Addr} {xs ys : List V} (hn : xs.length = ys.length) : Walk (RZ.ItzT K a b) xs.length (fun H => SqT K H a xs ∧ SqT K H b ys) (YPair (fun i => xs[i]?) (fun i => ys[i]?)) := by
  refine ⟨fun i H hi z => ?_, fun H z => ⟨xs, ys, z.1, z.2, .inl (Nat.le_refl _)⟩, fun i H v H' hi z y => ?_⟩
  · have h2 : i < ys.length := by omega
    exact ⟨xs, ys, xs[i], ys[i], z.1, z.2, by simp [hi], by simp [h2]⟩
  · obtain ⟨T, x, u, h1, h2, h3, h4, h5⟩ := y
    exact ⟨T, x, u, h1, h2, h3, h4 xs z.1, h5 ys z.2⟩
/-- a comprehension over zip of two tuples, all that stands stays -/
theorem lcZ {K : PySem.W.Frag} {a b : Addr} {xs ys : List V} {gt : TG} {te : TE} {vs : List Nat} {σ : L2.St} {H1 : Hp} {D : Addr} {Qd : Hp → Prop} (R : Nat → Hp → V → Prop) (hD : H1 D = none) (ha : H1 a = some (.tup xs)) (hb : H1 b = some (.tup ys)) (hl : xs.length = ys.length) (hn : xs.length ≤ 1000)
    (mono : ∀ j H H' v, Tk H H' → R j H v → R j H' v)
    (hs : ∀ i H T x y, Same H1 H → xs[i]? = some x → ys[i]? = some y → H T = some (.tup [x, y]) → ∀ Qk : VK, (∀ v H', Same H H' → R i H' v → Qk v H') → gt (.ref T) (wipe σ vs) H fun σ2 H2 => wipe σ2 vs = wipe σ vs ∧ te σ2 H2 Qk)
    (hd : ∀ H acc, Same H1 H → H D = some (.lst acc) → acc.length = xs.length → (∀ (j : Nat) y, acc[j]? = some y → R j H y) → Qd H) :
    ∃ W : Nat → Nat → Hp → Prop, (∃ m, W 0 m (upd H1 D (.lst []))) ∧ ∀ i m H, W i m H →
      ((RZ.ItzT K a b).stop i H ∧ Qd H) ∨ ((RZ.ItzT K a b).go i H ∧ ∃ Nx : Hp → Prop, (∀ H', Nx H' → ∃ m', m' < m ∧ W (i + 1) m' H') ∧ ∀ x H', (RZ.ItzT K a b).yld i H x H' → gt x (wipe σ vs) H' fun σ2 H2 => wipe σ2 vs = wipe σ vs ∧ tYes σ2 H2 fun b H3 =>
        if b = true then te σ2 H3 fun y H4 => ∃ acc, H4 D = some (.lst acc) ∧ acc.length < sizeLine ∧ Nx (upd H4 D (.lst (acc ++ [y]))) else Nx H3) := by
  refine lc_it (tt := tYes) (walk_zipT hl) (fun i H => Same H1 H ∧ ∃ acc, H D = some (.lst acc) ∧ acc.length = i ∧ ∀ (j : Nat) y, acc[j]? = some y → R j H y) ⟨sm_new hD, [], upd_same, rfl, fun j y h => nomatch h⟩ (fun i H' _ h => ⟨SqT.of (h.1 _ _ ha), SqT.of (h.1 _ _ hb)⟩) (fun i v H H2 hi h hY => ?_) (fun H h => ?_)
  · obtain ⟨sm, acc, eD, el, al⟩ := h
    obtain ⟨T, x, y, rfl, nT, rfl, hx, hy⟩ := hY
    have s2 : Same H (upd H T (.tup [x, y])) := sm_new nT
    refine hs i _ T x y (sm.trans s2) hx hy upd_same _ (fun v H3 s3 r => ?_)
    have eD3 := s3 _ _ (s2 _ _ eD)
    refine ⟨acc, eD3, szl (by omega), sm_mut ((sm.trans s2).trans s3) hD, acc ++ [v], upd_same, by rw [List.length_append, el]; rfl, fun j z hz => ?_⟩
    have T' : Tk H3 (upd H3 D (.lst (acc ++ [v]))) := Tk.lst eD3
    by_cases hj : j < acc.length
    · rw [List.getElem?_append_left hj] at hz
      exact mono _ _ _ _ T' (mono _ _ _ _ (same_tk (s2.trans s3)) (al j z hz))
    · have hj2 : j < (acc ++ [v]).length := (List.getElem?_eq_some_iff.mp hz).1
      rw [List.length_append] at hj2
      have ej : j = acc.length := by
        have : j < acc.length + 1 := hj2
        omega
      subst ej
      rw [List.getElem?_append_right (Nat.le_refl _), Nat.sub_self] at hz
      cases hz
      rw [el]
      exact mono _ _ _ _ T' r
  · obtain ⟨sm, acc, eD, el, al⟩ := h
    exact hd H acc sm eD el al
/-! ### data that is the same -/
theorem eqvAll_iff {α : Type} {f : α → PyData} (h : ∀ x y, PyData.eqv (f x) (f y) = true ↔ x = y) : ∀ xs ys : List α, PyData.eqvAll (xs.map f) (ys.map f) = true ↔ xs = ys
  | [], [] => by simp [PyData.eqvAll]
  | [], _ :: _ => by simp [PyData.eqvAll]
  | _ :: _, [] => by simp [PyData.eqvAll]
  | x :: xs, y :: ys => by
    simp only [List.map_cons, PyData.eqvAll, Bool.and_eq_true, h x y, eqvAll_iff h xs ys, List.cons.injEq]
theorem eqv_c (a b : Option Int) : PyData.eqv (cD a) (cD b) = true ↔ a = b := by
  cases a <;> cases b <;> simp [cD, PyData.eqv]
theorem eqv_m (A B : Mt) : PyData.eqv (mD A) (mD B) = true ↔ A = B := by
  unfold mD
  simp only [PyData.eqv]
  refine eqvAll_iff (fun r s => ?_) A B
  simp only [PyData.eqv]
  refine eqvAll_iff (fun c d => ?_) r s
  simp only [PyData.eqv]
  exact eqvAll_iff eqv_c c d
theorem canAll {α : Type} {f : α → PyData} (h : ∀ x, (f x).canLay0 = true) : ∀ xs : List α, PyData.canLayAll0 (xs.map f) = true
  | [] => rfl
  | x :: xs => by simp only [List.map_cons, PyData.canLayAll0, h x, canAll h xs, Bool.and_self]
theorem depAll {α : Type} {f : α → PyData} {k : Nat} (h : ∀ x, (f x).depth ≤ k) : ∀ xs : List α, PyData.depthAll (xs.map f) ≤ k
  | [] => Nat.zero_le _
  | x :: xs => by
    show max (f x).depth (PyData.depthAll (xs.map f)) ≤ k
    exact Nat.max_le.mpr ⟨h x, depAll h xs⟩
theorem shaped_m (A : Mt) : SeqAt.shaped (mD A) = true := by
  refine Bool.and_eq_true_iff.mpr ⟨?_, decide_eq_true ?_⟩
  · simp only [mD, PyData.canLay0]
    refine canAll (fun r => ?_) A
    simp only [PyData.canLay0]
    refine canAll (fun c => ?_) r
    simp only [PyData.canLay0]
    exact canAll (fun x => by cases x <;> rfl) c
  · have h1 : ∀ c : List (Option Int), (PyData.tuple (c.map cD)).depth ≤ 1 := fun c => Nat.succ_le_succ (depAll (k := 0) (fun x => by cases x <;> exact Nat.le_refl _) c)
    have h2 : ∀ r : List (List (Option Int)), (PyData.tuple (r.map fun c => .tuple (c.map cD))).depth ≤ 2 := fun r => Nat.succ_le_succ (depAll h1 r)
    exact Nat.le_trans (Nat.succ_le_succ (depAll h2 A)) (by decide)
section
variable {P : Program} {w : World} {K : PySem.W.Frag} {mg : Str → Option Value} {base : Heap}
def spAbove : Sp := fun vs H Q _ => ∃ a b, vs = [cv a, cv b] ∧ Q (.bl (aboveB a b)) H
theorem ok_above {f : Addr} {fd : FuncData} (F : Fun K "is_above" "is_above" s_is_above f fd) : FnOk P w K mg base CX0 1 f fd ["one", "other"] spAbove := by
  refine F.ok sc_is_above (fun vs H Q E h => ?_) (fun cdv A outer s H vs Q E hr h => ?_)
  · obtain ⟨a, b, rfl, _⟩ := h
    rfl
  · obtain ⟨a, b, rfl, q⟩ := h
    refine ⟨_, (pss_cons (ps_if (PW.pt (pw_or (pt_cmpR op_isN (pv 0) pe_non (nomark _)) (pw_or1 (pt_cmpR op_isN (pv 1) pe_non (nomark _)))))
    (pss_one (ps_ret (pe_and (pe_cmpR op_isN (pv 0) pe_non (nomark _)) (pe_one (pe_cmpR op_notN (pv 1) pe_non (nomark _))))))
    pss_nil)
  (pss_one (ps_ret (pe_cmpR op_gt (pv 0) (pv 1) (nomark _))))), ?_⟩
    cases a with
    | none =>
      cases b with
      | none => exact ⟨.non, rfl, rfl, _, rfl, .non, rfl, rfl, _, rfl, .non, rfl, rfl, q⟩
      | some j => exact ⟨.non, rfl, rfl, _, rfl, .non, rfl, rfl, _, rfl, .int j, rfl, rfl, q⟩
    | some i =>
      cases b with
      | none => exact ⟨.int i, rfl, rfl, _, rfl, .non, rfl, rfl, _, rfl, .int i, rfl, rfl, _, rfl, q⟩
      | some j => exact ⟨.int i, rfl, rfl, _, rfl, .int j, rfl, rfl, _, rfl, .int i, rfl, .int j, rfl, i, j, rfl, rfl, q⟩
def spPick (fn : Option Int → Option Int → Option Int) : Sp := fun vs H Q _ => ∃ a b, vs = [cv a, cv b] ∧ Q (cv (fn a b)) H
theorem ok_higher {f : Addr} {fd : FuncData} (F : Fun K "higher_cell" "higher_cell" s_higher_cell f fd) (C_is_above : Cl P w K mg base 1 "is_above" ["one", "other"] spAbove) : FnOk P w K mg base CX0 2 f fd ["one", "other"] (spPick hiO) := by
  refine F.ok sc_higher_cell (fun vs H Q E h => ?_) (fun cdv A outer s H vs Q E hr h => ?_)
  · obtain ⟨a, b, rfl, _⟩ := h
    rfl
  · obtain ⟨a, b, rfl, q⟩ := h
    refine ⟨_, (pss_one (ps_ret (pe_ifExp (pt_val (pe_cl C_is_above (hr.mono (by omega)) (by rfl) (pa_cons (pv 0) (pa_cons (pv 1) pa_nil)))) (pv 0) (pv 1)))), ?_⟩
    refine ⟨_, rfl, _, rfl, a, b, rfl, _, rfl, ite2 (fun e => ⟨_, rfl, ?_⟩) (fun e => ⟨_, rfl, ?_⟩)⟩
    · rw [hiO, if_pos e] at q; exact q
    · rw [hiO, if_neg e] at q; exact q
theorem ok_lower {f : Addr} {fd : FuncData} (F : Fun K "lower_cell" "lower_cell" s_lower_cell f fd) (C_is_above : Cl P w K mg base 1 "is_above" ["one", "other"] spAbove) : FnOk P w K mg base CX0 2 f fd ["one", "other"] (spPick loO) := by
  refine F.ok sc_lower_cell (fun vs H Q E h => ?_) (fun cdv A outer s H vs Q E hr h => ?_)
  · obtain ⟨a, b, rfl, _⟩ := h
    rfl
  · obtain ⟨a, b, rfl, q⟩ := h
    refine ⟨_, (pss_one (ps_ret (pe_ifExp (pt_val (pe_cl C_is_above (hr.mono (by omega)) (by rfl) (pa_cons (pv 0) (pa_cons (pv 1) pa_nil)))) (pv 1) (pv 0)))), ?_⟩
    refine ⟨_, rfl, _, rfl, a, b, rfl, _, rfl, ite2 (fun e => ⟨_, rfl, ?_⟩) (fun e => ⟨_, rfl, ?_⟩)⟩
    · rw [loO, if_pos e] at q; exact q
    · rw [loO, if_neg e] at q; exact q
abbrev Pks := Addr → Option (Option Int → Option Int → Option Int)
def SP (Pk : Pks) : Addr → Option Sp := fun a => (Pk a).map spPick
def spRows (Pk : Pks) : Sp := fun vs H Q _ => ∃ fa fn v u cs ds, vs = [.ref fa, v, u] ∧ Pk fa = some fn ∧ Ste H v cs ∧ Ste H u ds ∧ cs.length = ds.length ∧ cs.length ≤ 1000 ∧ ∀ z H', Same H H' → Ste H' z (List.zipWith fn cs ds) → Q z H'
theorem ok_rows {Pk : Pks} {f : Addr} {fd : FuncData} (F : Fun K "rows_by_cell" "rows_by_cell" s_rows_by_cell f fd) (m_tuple : mg "tuple" = none) (m_zip : mg "zip" = none) (hA : ∀ f sp, SP Pk f = some sp → Held P w K mg base 2 f sp) : FnOk P w K mg base CX0 3 f fd ["choose", "row", "beside"] (spRows Pk) := by
  refine F.ok sc_rows_by_cell (fun vs H Q E h => ?_) (fun cdv A outer s H vs Q E hr h => ?_)
  · obtain ⟨fa, fn, v, u, cs, ds, rfl, _⟩ := h
    rfl
  · obtain ⟨fa, fn, v, u, cs, ds, rfl, hf, ⟨r, rfl, hr1⟩, ⟨s, rfl, hs1⟩, el, le, q⟩ := h
    let S := SP Pk
    refine ⟨_, (pss_one (ps_ret (pe_callTy call_tuple_of (by rfl) m_tuple (by decide +kernel) (pa_cons (pe_lc (own := [("cell", 3), ("counter", 4)]) (g := (gTup K 2 (gCons (gName 3) (gCons (gName 4) gNil)))) (tt := tYes) rfl sc_rows_by_cell.nd ((pi_zipK (K := K)) (by rfl) m_zip (pa_cons (pv 1) (pa_cons (pv 2) pa_nil))) (blkOk_by (own := [("cell", 3), ("counter", 4)]) (N := ["choose", "row", "beside", "cell", "counter"]) (sc := defScope s_rows_by_cell) (by decide +kernel)) (fun _ _ _ _ _ => (pg_tup (by rfl) (pgs_cons (pg_name (i := 3) sc_rows_by_cell.nd rfl (.inl rfl)) (pgs_cons (pg_name (i := 4) sc_rows_by_cell.nd rfl (.inl rfl)) pgs_nil)))) (fun _ _ _ _ _ => pts_nil) (fun _ _ _ _ _ => (pe_callA (i := 0) (S := S) hA (hr.mono (by omega)) (by rfl) (by first | exact Or.inl rfl | exact Or.inr (Or.inl rfl) | exact Or.inr (Or.inr rfl)) (pa_cons (pv 3) (pa_cons (pv 4) pa_nil))))) pa_nil)))), ?_⟩
    refine ⟨.ref r, rfl, .ref s, rfl, r, s, _, _, rfl, .inr ⟨SqT.of hr1, SqT.of hs1, fun D nD => ?_⟩⟩
    refine lcZ (fun j _ v => ∃ c d, cs[j]? = some c ∧ ds[j]? = some d ∧ v = cv (fn c d)) nD hr1 hs1 (by rw [List.length_map, List.length_map, el]) (by rw [List.length_map]; exact le) (fun _ _ _ _ _ h => h) (fun i H1 T x y sm hx hy hT Qk qk => ?_) (fun H1 acc sm eD ea al => ?_)
    · rw [List.getElem?_map] at hx hy
      cases e1 : cs[i]? with
      | none => rw [e1] at hx; cases hx
      | some c =>
        rw [e1] at hx
        cases hx
        cases e2 : ds[i]? with
        | none => rw [e2] at hy; cases hy
        | some d =>
          rw [e2] at hy
          cases hy
          refine ⟨T, _, rfl, SqT.of hT, rfl, _, _, rfl, _, _, rfl, rfl, rfl, ?_⟩
          refine ⟨fa, spPick fn, rfl, by show (Pk fa).map spPick = _; rw [hf]; rfl, _, rfl, _, rfl, c, d, rfl, qk _ _ (Same.refl _) ⟨c, d, e1, e2, rfl⟩⟩
    · refine ⟨D, acc, rfl, .inl ⟨SqL.of eD, fun l nl => q _ _ (sm.trans (sm_new nl)) ⟨l, rfl, ?_⟩⟩⟩
      have : acc = (List.zipWith fn cs ds).map cv := by
        refine ext_q ?_ fun j x y hx hy => ?_
        · rw [ea, List.length_map, List.length_map, List.length_zipWith]
          omega
        · obtain ⟨c, d, h1, h2, rfl⟩ := al j x hx
          rw [List.getElem?_map, zip_at.mpr ⟨c, d, h1, h2, rfl⟩] at hy
          exact Option.some.inj hy
      rw [this]
      exact upd_same
def spCbc (Pk : Pks) : Sp := fun vs H Q _ => ∃ fa fn v u A B n nk, vs = [.ref fa, v, u] ∧ Pk fa = some fn ∧ Tbe H v A ∧ Tbe H u B ∧ Dim n nk A ∧ Dim n nk B ∧ n ≤ 1000 ∧ nk ≤ 1000 ∧ ∀ z H', Same H H' → Tbe H' z (zipM fn A B) → Q z H'
theorem ok_cbc {Pk : Pks} {f : Addr} {fd : FuncData} (F : Fun K "cell_by_cell" "cell_by_cell" s_cell_by_cell f fd) (m_tuple : mg "tuple" = none) (m_zip : mg "zip" = none) (C_rows_by_cell : Cl P w K mg base 3 "rows_by_cell" ["choose", "row", "beside"] (spRows Pk)) : FnOk P w K mg base CX0 4 f fd ["choose", "one", "other"] (spCbc Pk) := by
  refine F.ok sc_cell_by_cell (fun vs H Q E h => ?_) (fun cdv A outer s H vs Q E hr h => ?_)
  · obtain ⟨fa, fn, v, u, A, B, n, nk, rfl, _⟩ := h
    rfl
  · obtain ⟨fa, fn, v, u, A, B, n, nk, rfl, hf, ⟨t, xs, rfl, ht, al⟩, ⟨t2, ys, rfl, ht2, bl⟩, da, db, ln, lk, q⟩ := h
    refine ⟨_, (pss_one (ps_ret (pe_callTy call_tuple_of (by rfl) m_tuple (by decide +kernel) (pa_cons (pe_lc (own := [("rows", 3), ("besides", 4)]) (g := (gTup K 2 (gCons (gName 3) (gCons (gName 4) gNil)))) (tt := tYes) rfl sc_cell_by_cell.nd ((pi_zipK (K := K)) (by rfl) m_zip (pa_cons (pv 1) (pa_cons (pv 2) pa_nil))) (blkOk_by (own := [("rows", 3), ("besides", 4)]) (N := ["choose", "one", "other", "rows", "besides", "row", "beside"]) (sc := defScope s_cell_by_cell) (by decide +kernel)) (fun _ _ _ _ _ => (pg_tup (by rfl) (pgs_cons (pg_name (i := 3) sc_cell_by_cell.nd rfl (.inl rfl)) (pgs_cons (pg_name (i := 4) sc_cell_by_cell.nd rfl (.inl rfl)) pgs_nil)))) (fun _ _ _ _ _ => pts_nil) (fun _ _ _ _ _ => (pe_callTy (call_tupK (K := K)) (by rfl) m_tuple (by decide +kernel) (pa_cons (pe_lc (own := [("row", 5), ("beside", 6)]) (g := (gTup K 2 (gCons (gName 5) (gCons (gName 6) gNil)))) (tt := tYes) rfl sc_cell_by_cell.nd ((pi_zipK (K := K)) (by rfl) m_zip (pa_cons (pv 3) (pa_cons (pv 4) pa_nil))) (by exact blkOk_by (own := [("row", 5), ("beside", 6)]) (by rfl)) (fun _ _ _ _ _ => (pg_tup (by rfl) (pgs_cons (pg_name (i := 5) sc_cell_by_cell.nd rfl (.inl rfl)) (pgs_cons (pg_name (i := 6) sc_cell_by_cell.nd rfl (.inl rfl)) pgs_nil)))) (fun _ _ _ _ _ => pts_nil) (fun _ _ _ _ _ => (pe_cl C_rows_by_cell (hr.mono (by omega)) (by rfl) (pa_cons (pv 0) (pa_cons (pv 5) (pa_cons (pv 6) pa_nil)))))) pa_nil)))) pa_nil)))), ?_⟩
    have lx := al.1
    have ly := bl.1
    have la := da.rows
    have lb := db.rows
    refine ⟨.ref t, rfl, .ref t2, rfl, t, t2, _, _, rfl, .inr ⟨SqT.of ht, SqT.of ht2, fun D nD => ?_⟩⟩
    refine lcZ (fun j H v => ∃ r s, A[j]? = some r ∧ B[j]? = some s ∧ Rwe H v (List.zipWith (List.zipWith fn) r s)) nD ht ht2 (by omega) (by omega) (fun _ _ _ _ k h => ?_) (fun i H1 T x y sm hx hy hT Qk qk => ?_) (fun H1 acc sm eD ea ac => ?_)
    · obtain ⟨r, s, a, b, c⟩ := h
      exact ⟨r, s, a, b, c.mono k⟩
    · obtain ⟨r, hr1, hxr⟩ := al.to hx
      obtain ⟨s, hs1, hys⟩ := bl.to hy
      obtain ⟨qa, us, rfl, hqa, cl⟩ := hxr.mono (same_tk sm)
      obtain ⟨qb, ws, rfl, hqb, dl⟩ := hys.mono (same_tk sm)
      have lr := da.cols _ _ hr1
      have ls := db.cols _ _ hs1
      have lu := cl.1
      have lw := dl.1
      refine ⟨T, _, rfl, SqT.of hT, rfl, _, _, rfl, _, _, rfl, rfl, rfl, ?_⟩
      refine ⟨.ref qa, rfl, .ref qb, rfl, qa, qb, _, _, rfl, .inr ⟨SqT.of hqa, SqT.of hqb, fun D2 nD2 => ?_⟩⟩
      refine lcZ (fun m H v => ∃ c d, r[m]? = some c ∧ s[m]? = some d ∧ Ste H v (List.zipWith fn c d)) nD2 hqa hqb (by omega) (by omega) (fun _ _ _ _ k h => ?_) (fun m H2 T2 x2 y2 sm2 hx2 hy2 hT2 Qk2 qk2 => ?_) (fun H2 acc2 sm2 eD2 ea2 ac2 => ?_)
      · obtain ⟨c, d, a, b, z⟩ := h
        exact ⟨c, d, a, b, z.mono k⟩
      · obtain ⟨c, hc1, hxc⟩ := cl.to hx2
        obtain ⟨d, hd1, hyd⟩ := dl.to hy2
        have lc := da.len _ _ _ _ hr1 hc1
        have ld := db.len _ _ _ _ hs1 hd1
        refine ⟨T2, _, rfl, SqT.of hT2, rfl, _, _, rfl, _, _, rfl, rfl, rfl, ?_⟩
        exact ⟨.ref fa, rfl, x2, rfl, y2, rfl, fa, fn, x2, y2, c, d, rfl, hf, hxc.mono (same_tk sm2), hyd.mono (same_tk sm2), by omega, by omega, fun z H3 sm3 hz => qk2 z H3 sm3 ⟨c, d, hc1, hd1, hz⟩⟩
      · refine ⟨D2, acc2, rfl, .inl ⟨SqL.of eD2, fun l nl => qk _ _ (sm2.trans (sm_new nl)) ⟨r, s, hr1, hs1, l, acc2, rfl, upd_same, ?_, fun m x z hx hz => ?_⟩⟩⟩
        · rw [ea2, List.length_zipWith]; omega
        · obtain ⟨c, d, h1, h2, hst⟩ := ac2 m x hx
          obtain ⟨c', d', h1', h2', rfl⟩ := zip_at.mp hz
          rw [h1] at h1'; cases h1'
          rw [h2] at h2'; cases h2'
          exact hst.mono (Tk.new nl)
    · refine ⟨D, acc, rfl, .inl ⟨SqL.of eD, fun l nl => q _ _ (sm.trans (sm_new nl)) ⟨l, acc, rfl, upd_same, ?_, fun j x z hx hz => ?_⟩⟩⟩
      · show acc.length = (List.zipWith _ A B).length
        rw [ea, List.length_zipWith]; omega
      · obtain ⟨r, s, h1, h2, hst⟩ := ac j x hx
        obtain ⟨r', s', h1', h2', rfl⟩ := zip_at.mp hz
        rw [h1] at h1'; cases h1'
        rw [h2] at h2'; cases h2'
        exact hst.mono (Tk.new nl)
def spBoth (fn : Option Int → Option Int → Option Int) : Sp := fun vs H Q _ => ∃ o v u A B n nk, vs = [o, v, u] ∧ Tbe H v A ∧ Tbe H u B ∧ Dim n nk A ∧ Dim n nk B ∧ n ≤ 1000 ∧ nk ≤ 1000 ∧ ∀ z H', Same H H' → Tbe H' z (zipM fn A B) → Q z H'
theorem ok_both {Pk : Pks} {f : Addr} {fd : FuncData} (F : Fun K "both" "both" s_both f fd) {f_higher_cell : Addr} (g_higher_cell : mg "higher_cell" = some (.ref f_higher_cell)) (hk : Pk f_higher_cell = some hiO) (C_cell_by_cell : Cl P w K mg base 4 "cell_by_cell" ["choose", "one", "other"] (spCbc Pk)) : FnOk P w K mg base CX0 5 f fd ["world", "one", "other"] (spBoth hiO) := by
  refine F.ok sc_both (fun vs H Q E h => ?_) (fun cdv A outer s H vs Q E hr h => ?_)
  · obtain ⟨o, v, u, A, B, n, nk, rfl, _⟩ := h
    rfl
  · obtain ⟨o, v, u, A, B, n, nk, rfl, ta, tb, da, db, ln, lk, q⟩ := h
    refine ⟨_, (pss_one (ps_ret (pe_cl C_cell_by_cell (hr.mono (by omega)) (by rfl) (pa_cons (pe_glob (v := .ref f_higher_cell) (by rfl) g_higher_cell rfl) (pa_cons (pv 1) (pa_cons (pv 2) pa_nil)))))), ?_⟩
    exact ⟨v, rfl, u, rfl, f_higher_cell, hiO, v, u, A, B, n, nk, rfl, hk, ta, tb, da, db, ln, lk, q⟩
theorem ok_either {Pk : Pks} {f : Addr} {fd : FuncData} (F : Fun K "either" "either" s_either f fd) {f_lower_cell : Addr} (g_lower_cell : mg "lower_cell" = some (.ref f_lower_cell)) (hk : Pk f_lower_cell = some loO) (C_cell_by_cell : Cl P w K mg base 4 "cell_by_cell" ["choose", "one", "other"] (spCbc Pk)) : FnOk P w K mg base CX0 5 f fd ["world", "one", "other"] (spBoth loO) := by
  refine F.ok sc_either (fun vs H Q E h => ?_) (fun cdv A outer s H vs Q E hr h => ?_)
  · obtain ⟨o, v, u, A, B, n, nk, rfl, _⟩ := h
    rfl
  · obtain ⟨o, v, u, A, B, n, nk, rfl, ta, tb, da, db, ln, lk, q⟩ := h
    refine ⟨_, (pss_one (ps_ret (pe_cl C_cell_by_cell (hr.mono (by omega)) (by rfl) (pa_cons (pe_glob (v := .ref f_lower_cell) (by rfl) g_lower_cell rfl) (pa_cons (pv 1) (pa_cons (pv 2) pa_nil)))))), ?_⟩
    exact ⟨v, rfl, u, rfl, f_lower_cell, loO, v, u, A, B, n, nk, rfl, hk, ta, tb, da, db, ln, lk, q⟩
end
end Rt
namespace Rt
open PySem PySem.Spec PyProof.Rows L2
theorem Wl.same {H H' : Hp} {p : Addr} {n : Int} {pk : Addr} {ok : Obj} {ks : List Str} {ps pw : Addr} (h : Wl H p n pk ok ks ps pw) (s : Same H H') : Wl H' p n pk ok ks ps pw :=
  ⟨s _ _ h.hp, h.n1, h.n6, s _ _ h.hk, h.dk, h.k1, h.k4, h.sk, h.ss.mono (same_tk s), h.sw.mono (same_tk s), h.nd⟩
theorem al_rep {α β : Type} {R : α → β → Prop} {x : α} {y : β} (n : Nat) (h : R x y) : Al R (List.replicate n x) (List.replicate n y) := by
  refine ⟨by rw [List.length_replicate, List.length_replicate], fun i u v hu hv => ?_⟩
  rw [List.eq_of_mem_replicate (List.mem_of_getElem? hu), List.eq_of_mem_replicate (List.mem_of_getElem? hv)]
  exact h
def emptyM (n : Int) (nk : Nat) : Mt := List.replicate nk (List.replicate n.toNat (List.replicate 27 none))
theorem emptyM_cell {n : Int} {nk : Nat} {j m : Nat} {r : List (List (Option Int))} {c : List (Option Int)} (h1 : (emptyM n nk)[j]? = some r) (h2 : r[m]? = some c) : r = List.replicate n.toNat (List.replicate 27 none) ∧ c = List.replicate 27 none := by
  have e1 := List.eq_of_mem_replicate (List.mem_of_getElem? h1)
  subst e1
  exact ⟨rfl, List.eq_of_mem_replicate (List.mem_of_getElem? h2)⟩
theorem emptyM_dim (n : Int) (nk : Nat) : Dim n nk (emptyM n nk) := by
  refine ⟨List.length_replicate .., fun j r h => ?_, fun j r m c h1 h2 => ?_, fun j r m c h1 h2 i hi => ?_⟩
  · rw [List.eq_of_mem_replicate (List.mem_of_getElem? h), List.length_replicate]
  · rw [(emptyM_cell h1 h2).2, List.length_replicate]
  · rw [(emptyM_cell h1 h2).2] at hi
    exact nomatch List.eq_of_mem_replicate hi
theorem emptyM_le (n : Int) (nk : Nat) (A : Mt) : LeM (emptyM n nk) A := fun j m i r s c d x y h1 h2 h3 h4 h5 h6 => by
  rw [(emptyM_cell h1 h3).2] at h5
  rw [List.eq_of_mem_replicate (List.mem_of_getElem? h5)]
  trivial
section
variable {P : Program} {w : World} {K : PySem.W.Frag} {mg : Str → Option Value} {base : Heap}
def spEmpty : Sp := fun vs H Q _ => ∃ (p : Addr) (n : Int) (pk : Addr) (ok : Obj) (ks : List Str) (ps pw : Addr), vs = [.ref p] ∧ Wl H p n pk ok ks ps pw ∧ ∀ v H', Same H H' → Tbe H' v (emptyM n ks.length) → Q v H'
theorem ok_empty {f : Addr} {fd : FuncData} (F : Fun K "_law_empty" "_law_empty" s_law_empty f fd) (m_len : mg "len" = none) : FnOk P w K mg base CX0 1 f fd ["_law_world_here"] spEmpty := by
  refine F.ok sc_law_empty (fun vs H Q E h => ?_) (fun cdv A outer s H vs Q E hr h => ?_)
  · obtain ⟨p, n, pk, ok, ks, ps, pw, rfl, _⟩ := h
    rfl
  · obtain ⟨p, n, pk, ok, ks, ps, pw, rfl, W, q⟩ := h
    have n1 := W.n1
    have n6 := W.n6
    have k1 := W.k1
    have k4 := W.k4
    refine ⟨_, (pss_one (ps_ret (pe_op op_repS1 (pe_tupL (pa_cons (pe_op op_repS1 (pe_tupL (pa_cons (pe_op op_repS1 (pe_tupL (pa_cons pe_non pa_nil)) pe_int) pa_nil)) (pe_ix ix_tup (pv 0) pe_int (fun _ _ => rfl))) pa_nil)) (pe_callB call_len (by rfl) m_len (by decide +kernel) (pa_cons (pe_ix ix_tup (pv 0) pe_int (fun _ _ => rfl)) pa_nil))))), ?_⟩
    refine ⟨sz (n := 1) (by decide), fun p1 H1 np1 eH1 => ⟨p1, 27, [.non], rfl, rfl, at_new eH1, by simp, by decide, by decide, by decide, fun p2 H2 s2 h2 => ⟨sz (n := 1) (by decide), fun p3 H3 np3 eH3 => ?_⟩⟩⟩
    have s1 : Same H H1 := by rw [eH1]; exact sm_new np1
    have s3 : Same H2 H3 := by rw [eH3]; exact sm_new np3
    have W3 := W.same ((s1.trans s2).trans s3)
    refine ⟨.ref p, rfl, p, _, 0, _, rfl, rfl, SqT.of W3.hp, rfl, p3, n, [.ref p2], rfl, rfl, at_new eH3, by simp, n1, by omega, (show 1 ≤ 1000 by decide), fun p4 H4 s4 h4 => ⟨sz (n := 1) (by decide), fun p5 H5 np5 eH5 => ?_⟩⟩
    have s5 : Same H4 H5 := by rw [eH5]; exact sm_new np5
    have W5 := (W3.same s4).same s5
    refine ⟨.ref p, rfl, p, _, 1, _, rfl, rfl, SqT.of W5.hp, rfl, .ref pk, ks.length, rfl, .inr ⟨_, SqT.frz W5.hk, by rw [List.length_map]⟩, p5, (ks.length : Int), [.ref p4], rfl, rfl, at_new eH5, by simp, by omega, by omega, (show 1 ≤ 1000 by decide), fun p6 H6 s6 h6 => ?_⟩
    refine q _ _ (((((s1.trans s2).trans s3).trans s4).trans s5).trans s6) ⟨p6, _, rfl, h6, ?_⟩
    rw [List.flatten_replicate_singleton, Int.toNat_natCast]
    refine al_rep _ ⟨p4, _, rfl, (s5.trans s6) _ _ h4, ?_⟩
    rw [List.flatten_replicate_singleton]
    refine al_rep _ ⟨p2, rfl, ?_⟩
    have := ((s3.trans s4).trans (s5.trans s6)) _ _ h2
    rw [List.flatten_replicate_singleton] at this
    exact this
def spSameD (K : PySem.W.Frag) : Sp := fun vs H Q _ => ∃ a b d, vs = [.ref a, .ref b] ∧ Dp K H (.ref a) d ∧ Dp K H (.ref b) d ∧ Lim 60 10000000 d ∧ Q (.bl true) H
theorem ok_sameD {f : Addr} {fd : FuncData} (F : Fun K "_law_same" "_law_same" s_law_same f fd) (m_repr : mg "repr" = none) : FnG P w K mg base 1 f fd ["_law_found", "_law_due"] (spSameD K) := by
  refine okG F sc_law_same (fun vs H Q E h => ?_) (fun cdv A outer s H vs Q E hr hg h => ?_)
  · obtain ⟨a, b, d, rfl, _⟩ := h
    rfl
  · obtain ⟨a, b, d, rfl, h1, h2, l, q⟩ := h
    refine ⟨_, (pss_one (ps_ret (pe_cmpR op_eq (pe_callB (call_repr hg hr.units) (by rfl) m_repr (by decide +kernel) (pa_cons (pv 0) pa_nil)) (pe_callB (call_repr hg hr.units) (by rfl) m_repr (by decide +kernel) (pa_cons (pv 1) pa_nil)) (nomark _)))), ?_⟩
    refine ⟨.ref a, rfl, a, d, rfl, h1, l.s, l.h, l.d, szB l.l, fun z1 e1 => ⟨.ref b, rfl, b, d, rfl, h2, l.s, l.h, l.d, szB l.l, fun z2 e2 => ⟨rfl, ?_⟩⟩⟩
    rw [e1, e2, decide_eq_true rfl]
    exact q
end
end Rt
namespace Rt
open PySem PySem.Spec PyProof.Rows L2
theorem app_at {α : Type} {R : Nat → α → Prop} {acc : List α} {v : α} (h : ∀ (j : Nat) y, acc[j]? = some y → R j y) (hv : R acc.length v) : ∀ (j : Nat) y, (acc ++ [v])[j]? = some y → R j y := fun j y hy => by
  by_cases hj : j < acc.length
  · rw [List.getElem?_append_left hj] at hy
    exact h j y hy
  · have hj2 : j < (acc ++ [v]).length := (List.getElem?_eq_some_iff.mp hy).1
    rw [List.length_append] at hj2
    have ej : j = acc.length := by
      have : j < acc.length + 1 := hj2
      omega
    subst ej
    rw [List.getElem?_append_right (Nat.le_refl _), Nat.sub_self] at hy
    cases hy
    exact hv
def pick (b : Bool) : Option Int → Option Int → Option Int := if b = true then loO else hiO
def numsOf (c d : Option Int) : List Int := (c.toList ++ d.toList)
theorem ints_shaped (ns : List Int) : SeqAt.shaped (.list (ns.map PyData.int)) = true := by
  refine Bool.and_eq_true_iff.mpr ⟨?_, decide_eq_true ?_⟩
  · simp only [PyData.canLay0]
    exact canAll (fun x => rfl) ns
  · exact Nat.le_trans (Nat.succ_le_succ (depAll (k := 0) (fun x => Nat.le_refl _) ns)) (by decide)
theorem dp_ints {K : PySem.W.Frag} {H : Hp} : ∀ ns : List Int, DpAll K H (ns.map V.int) (ns.map PyData.int)
  | [] => .nil
  | b :: bs => .cons (.int b) (dp_ints bs)
theorem lo_min {x y : Option Int} {m : Int} (h1 : m ∈ numsOf x y) (h2 : ∀ z ∈ numsOf x y, m ≤ z) : loO x y = some m := by
  cases x with
  | none =>
    cases y with
    | none => simp [numsOf] at h1
    | some y => simp [numsOf] at h1; simp [loO, aboveB, h1]
  | some x =>
    cases y with
    | none => simp [numsOf] at h1; simp [loO, aboveB, h1]
    | some y =>
      have a := h2 x (by simp [numsOf])
      have b := h2 y (by simp [numsOf])
      have c : m = x ∨ m = y := by simpa [numsOf] using h1
      by_cases e : y < x
      · have : loO (some x) (some y) = some y := by rw [loO, if_pos (show aboveB (some x) (some y) = true from decide_eq_true e)]
        rw [this]
        exact congrArg some (by omega)
      · have : loO (some x) (some y) = some x := by rw [loO, if_neg (show ¬ aboveB (some x) (some y) = true from fun z => e (of_decide_eq_true z))]
        rw [this]
        exact congrArg some (by omega)
theorem lo_nil {x y : Option Int} (h : numsOf x y = []) : loO x y = none := by
  cases x <;> cases y <;> simp_all [numsOf, loO, aboveB]
theorem hi_max {x y : Option Int} {m : Int} (h : (numsOf x y).length = 2) (h1 : m ∈ numsOf x y) (h2 : ∀ z ∈ numsOf x y, z ≤ m) : hiO x y = some m := by
  cases x with
  | none => cases y <;> simp [numsOf] at h
  | some x =>
    cases y with
    | none => simp [numsOf] at h
    | some y =>
      have a := h2 x (by simp [numsOf])
      have b := h2 y (by simp [numsOf])
      have c : m = x ∨ m = y := by simpa [numsOf] using h1
      by_cases e : y < x
      · have : hiO (some x) (some y) = some x := by rw [hiO, if_pos (show aboveB (some x) (some y) = true from decide_eq_true e)]
        rw [this]
        exact congrArg some (by omega)
      · have : hiO (some x) (some y) = some y := by rw [hiO, if_neg (show ¬ aboveB (some x) (some y) = true from fun z => e (of_decide_eq_true z))]
        rw [this]
        exact congrArg some (by omega)
theorem hi_few {x y : Option Int} (h : (numsOf x y).length ≠ 2) : hiO x y = none := by
  cases x <;> cases y <;> simp_all [numsOf, hiO, aboveB]
theorem eqv_nil : ∀ ns : List Int, PyData.eqv (.list (ns.map PyData.int)) (.list []) = decide (ns = [])
  | [] => by simp [PyData.eqv, PyData.eqvAll]
  | _ :: _ => by simp [PyData.eqv, PyData.eqvAll]
section
variable {P : Program} {w : World} {K : PySem.W.Frag} {mg : Str → Option Value} {base : Heap}
def spMixed : Sp := fun vs H Q _ => ∃ (v u : V) (b : Bool) (A B : Mt) (n : Int) (nk : Nat), vs = [v, u, .bl b] ∧ Tbe H v A ∧ Tbe H u B ∧ Dim n nk A ∧ Dim n nk B ∧ n ≤ 1000 ∧ nk ≤ 1000 ∧ ∀ z H', Same H H' → Tbe H' z (zipM (pick b) A B) → Q z H'
theorem ok_mixed {f : Addr} {fd : FuncData} (F : Fun K "_law_mixed" "_law_mixed" s_law_mixed f fd) (m_zip : mg "zip" = none) (m_tuple : mg "tuple" = none) (m_min : mg "min" = none) (m_max : mg "max" = none) (m_len : mg "len" = none) :
    FnOk P w K mg base CX0 1 f fd ["_law_one", "_law_other", "_law_is_lesser"] spMixed := by
  refine F.ok sc_law_mixed (fun vs H Q E h => ?_) (fun cdv A outer s H vs Q E hr h => ?_)
  · obtain ⟨v, u, b, A, B, n, nk, rfl, _⟩ := h
    rfl
  · obtain ⟨v, u, b, A, B, n, nk, rfl, ⟨t, xs, rfl, ht, al⟩, ⟨t2, ys, rfl, ht2, bl⟩, da, db, ln, lk, q⟩ := h
    have lx := al.1
    have ly := bl.1
    have la := da.rows
    have lb := db.rows
    refine ⟨_, (pss_cons (ps_set (i := 3) sc_law_mixed.nd rfl (.inl rfl) (pe_lstL pa_nil))
  (pss_cons (ps_for PassesOwn.never rfl ((pi_zipK (K := K)) (by rfl) m_zip (pa_cons (pv 0) (pa_cons (pv 1) pa_nil))) (pg_tup (by rfl) (pgs_cons (pg_name (i := 4) sc_law_mixed.nd rfl (.inl rfl)) (pgs_cons (pg_name (i := 5) sc_law_mixed.nd rfl (.inl rfl)) pgs_nil)))
    (pss_cons (ps_set (i := 6) sc_law_mixed.nd rfl (.inl rfl) (pe_lstL pa_nil))
  (pss_cons (ps_for PassesOwn.never rfl ((pi_zipK (K := K)) (by rfl) m_zip (pa_cons (pv 4) (pa_cons (pv 5) pa_nil))) (pg_tup (by rfl) (pgs_cons (pg_name (i := 7) sc_law_mixed.nd rfl (.inl rfl)) (pgs_cons (pg_name (i := 8) sc_law_mixed.nd rfl (.inl rfl)) pgs_nil)))
    (pss_cons (ps_set (i := 9) sc_law_mixed.nd rfl (.inl rfl) (pe_lstL pa_nil))
  (pss_cons (ps_for PassesOwn.never rfl ((pi_zipK (K := K)) (by rfl) m_zip (pa_cons (pv 7) (pa_cons (pv 8) pa_nil))) (pg_tup (by rfl) (pgs_cons (pg_name (i := 10) sc_law_mixed.nd rfl (.inl rfl)) (pgs_cons (pg_name (i := 11) sc_law_mixed.nd rfl (.inl rfl)) pgs_nil)))
    (pss_cons (ps_setLc (i := 12) (own := [("_law_number", 13)]) (g := (gName 13)) rfl sc_law_mixed.nd rfl rfl (sw_true rfl rfl rfl (by decide +kernel)) (pi_tup (pe_tupL (pa_cons (pv 10) (pa_cons (pv 11) pa_nil)))) (blkOk_by (own := [("_law_number", 13)]) (N := ["_law_one", "_law_other", "_law_is_lesser", "_law_found", "_law_row", "_law_more", "_law_stairs", "_law_left", "_law_right", "_law_stair_here", "_law_a", "_law_b", "_law_some", "_law_number"]) (sc := defScope s_law_mixed) (by decide +kernel)) (fun _ _ _ _ _ => (pg_name (i := 13) sc_law_mixed.nd rfl (.inl rfl))) (fun _ _ _ _ _ => (pts_one (pt_cmpR op_notN (pv 13) pe_non (nomark _)))) (fun _ _ _ _ _ => (pv 13)))
  (pss_one (ps_if (pt_val (pv 2))
    (pss_one (ps_expr (pe_bm PySem.F.plainAttrs_list PySem.F.slot_list_append PySem.F.type_list_append mt_append (pv 9) (pa_cons (pe_ifExp (pt_cmpR (op_neD hr.units) (pv 12) (pe_lstL pa_nil) (nomark _)) (pe_callB (cr_min rfl) (by rfl) m_min (by decide +kernel) (pa_cons (pv 12) pa_nil)) pe_non) pa_nil))))
    (pss_one (ps_expr (pe_bm PySem.F.plainAttrs_list PySem.F.slot_list_append PySem.F.type_list_append mt_append (pv 9) (pa_cons (pe_ifExp (pt_cmpR op_eq (pe_callB call_len (by rfl) m_len (by decide +kernel) (pa_cons (pv 12) pa_nil)) pe_int (nomark _)) (pe_callB (cr_max rfl) (by rfl) m_max (by decide +kernel) (pa_cons (pv 12) pa_nil)) pe_non) pa_nil))))))))
  (pss_one (ps_expr (pe_bm PySem.F.plainAttrs_list PySem.F.slot_list_append PySem.F.type_list_append mt_append (pv 6) (pa_cons (pe_callTy call_tuple_of (by rfl) m_tuple (by decide +kernel) (pa_cons (pv 9) pa_nil)) pa_nil)))))))
  (pss_one (ps_expr (pe_bm PySem.F.plainAttrs_list PySem.F.slot_list_append PySem.F.type_list_append mt_append (pv 3) (pa_cons (pe_callTy call_tuple_of (by rfl) m_tuple (by decide +kernel) (pa_cons (pv 6) pa_nil)) pa_nil)))))))
  (pss_one (ps_ret (pe_callTy call_tuple_of (by rfl) m_tuple (by decide +kernel) (pa_cons (pv 3) pa_nil)))))), ?_⟩
    refine ⟨sz (n := 0) (by decide), fun pf H1 npf eH1 => ?_⟩
    have s1 : Same H H1 := by rw [eH1]; exact sm_new npf
    refine ⟨.ref t, rfl, .ref t2, rfl, t, t2, _, _, rfl, .inr ⟨SqT.of (s1 _ _ ht), SqT.of (s1 _ _ ht2), ?_⟩⟩
    refine for_it (walk_zipT (K := K) (xs := xs) (ys := ys) (by omega)) (fun i σ H' => Same H H' ∧ (∃ acc, H' pf = some (.lst acc) ∧ acc.length = i ∧ ∀ (j : Nat) y, acc[j]? = some y → ∃ r s, A[j]? = some r ∧ B[j]? = some s ∧ Rwe H' y (List.zipWith (List.zipWith (pick b)) r s)) ∧ ∃ y4 y5 y6 y7 y8 y9 y10 y11 y12 y13, σ = [some (.ref t), some (.ref t2), some (.bl b), some (.ref pf), y4, y5, y6, y7, y8, y9, y10, y11, y12, y13])
      ⟨s1, ⟨[], at_new eH1, rfl, fun j y h => nomatch h⟩, _, _, _, _, _, _, _, _, _, _, rfl⟩ (fun i σ H' _ h => ⟨SqT.of (h.1 _ _ ht), SqT.of (h.1 _ _ ht2)⟩) (fun i x σ H2 H3 hi h hY => ?_) (fun σ H2 h => ?_)
    · obtain ⟨s2, ⟨acc, hacc, lacc, ac⟩, y4, y5, y6, y7, y8, y9, y10, y11, y12, y13, rfl⟩ := h
      obtain ⟨T, x1, x2, rfl, nT, rfl, e1, e2⟩ := hY
      have e1 : xs[i]? = some x1 := e1
      have e2 : ys[i]? = some x2 := e2
      obtain ⟨r, hr1, hxr⟩ := al.to e1
      obtain ⟨s', hs1, hys⟩ := bl.to e2
      have s3 : Same H2 (upd H2 T (.tup [x1, x2])) := sm_new nT
      generalize hH3 : upd H2 T (.tup [x1, x2]) = H3 at s3 ⊢
      have hT3 : H3 T = some (.tup [x1, x2]) := by rw [← hH3]; exact upd_same
      have s03 := s2.trans s3
      obtain ⟨qa, us, rfl, hqa, cl⟩ := hxr.mono (same_tk s03)
      obtain ⟨qb, ws, rfl, hqb, dl⟩ := hys.mono (same_tk s03)
      have lr := da.cols _ _ hr1
      have ls := db.cols _ _ hs1
      have lu := cl.1
      have lw := dl.1
      refine ⟨T, _, rfl, SqT.of hT3, rfl, _, _, rfl, _, _, rfl, rfl, ?_⟩
      refine ⟨sz (n := 0) (by decide), fun pn H4 npn eH4 => ?_⟩
      have s4 : Same H3 H4 := by rw [eH4]; exact sm_new npn
      refine ⟨.ref qa, rfl, .ref qb, rfl, qa, qb, _, _, rfl, .inr ⟨SqT.of (s4 _ _ hqa), SqT.of (s4 _ _ hqb), ?_⟩⟩
      refine for_it (walk_zipT (K := K) (xs := us) (ys := ws) (by omega)) (fun m σ H' => Same H3 H' ∧ (∃ acc2, H' pn = some (.lst acc2) ∧ acc2.length = m ∧ ∀ (j : Nat) y, acc2[j]? = some y → ∃ c d, r[j]? = some c ∧ s'[j]? = some d ∧ Ste H' y (List.zipWith (pick b) c d)) ∧ ∃ y7 y8 y9 y10 y11 y12 y13, σ = [some (.ref t), some (.ref t2), some (.bl b), some (.ref pf), some (.ref qa), some (.ref qb), some (.ref pn), y7, y8, y9, y10, y11, y12, y13])
        ⟨s4, ⟨[], at_new eH4, rfl, fun j y h => nomatch h⟩, _, _, _, _, _, _, _, rfl⟩ (fun m σ H' _ h => ⟨SqT.of (h.1 _ _ hqa), SqT.of (h.1 _ _ hqb)⟩) (fun m x σ H5 H6 hm h hY => ?_) (fun σ H5 h => ?_)
      · obtain ⟨s5, ⟨acc2, hacc2, lacc2, ac2⟩, y7, y8, y9, y10, y11, y12, y13, rfl⟩ := h
        obtain ⟨T2, x1, x2, rfl, nT2, rfl, e1, e2⟩ := hY
        have e1 : us[m]? = some x1 := e1
        have e2 : ws[m]? = some x2 := e2
        obtain ⟨c, hc1, hxc⟩ := cl.to e1
        obtain ⟨d, hd1, hyd⟩ := dl.to e2
        have lc := da.len _ _ _ _ hr1 hc1
        have ld := db.len _ _ _ _ hs1 hd1
        have s6 : Same H5 (upd H5 T2 (.tup [x1, x2])) := sm_new nT2
        generalize hH6 : upd H5 T2 (.tup [x1, x2]) = H6 at s6 ⊢
        have hT6 : H6 T2 = some (.tup [x1, x2]) := by rw [← hH6]; exact upd_same
        have s36 := s5.trans s6
        obtain ⟨ra, rfl, hra⟩ := hxc.mono (same_tk s36)
        obtain ⟨rb, rfl, hrb⟩ := hyd.mono (same_tk s36)
        refine ⟨T2, _, rfl, SqT.of hT6, rfl, _, _, rfl, _, _, rfl, rfl, ?_⟩
        refine ⟨sz (n := 0) (by decide), fun ph H7 nph eH7 => ?_⟩
        have s7 : Same H6 H7 := by rw [eH7]; exact sm_new nph
        refine ⟨.ref ra, rfl, .ref rb, rfl, ra, rb, _, _, rfl, .inr ⟨SqT.of (s7 _ _ hra), SqT.of (s7 _ _ hrb), ?_⟩⟩
        refine for_it (walk_zipT (K := K) (xs := c.map cv) (ys := d.map cv) (by rw [List.length_map, List.length_map]; omega)) (fun a σ H' => Same H6 H' ∧ H' ph = some (.lst (((List.zipWith (pick b) c d).take a).map cv)) ∧ ∃ y10 y11 y12 y13, σ = [some (.ref t), some (.ref t2), some (.bl b), some (.ref pf), some (.ref qa), some (.ref qb), some (.ref pn), some (.ref ra), some (.ref rb), some (.ref ph), y10, y11, y12, y13])
          ⟨s7, at_new eH7, _, _, _, _, rfl⟩ (fun a σ H' _ h => ⟨SqT.of (h.1 _ _ hra), SqT.of (h.1 _ _ hrb)⟩) (fun a x σ H8 H9 ha h hY => ?_) (fun σ H8 h => ?_)
        · obtain ⟨s8, hph, y10, y11, y12, y13, rfl⟩ := h
          obtain ⟨T3, x1, x2, rfl, nT3, rfl, e1, e2⟩ := hY
          have e1 : (c.map cv)[a]? = some x1 := e1
          have e2 : (d.map cv)[a]? = some x2 := e2
          rw [List.length_map] at ha
          have had : a < d.length := by omega
          obtain ⟨x, hx⟩ : ∃ x, c[a]? = some x := ⟨_, List.getElem?_eq_getElem ha⟩
          obtain ⟨y, hy⟩ : ∃ x, d[a]? = some x := ⟨_, List.getElem?_eq_getElem had⟩
          rw [List.getElem?_map, hx] at e1
          rw [List.getElem?_map, hy] at e2
          cases e1
          cases e2
          have s9 : Same H8 (upd H8 T3 (.tup [cv x, cv y])) := sm_new nT3
          generalize hH9 : upd H8 T3 (.tup [cv x, cv y]) = H9 at s9 ⊢
          have hT9 : H9 T3 = some (.tup [cv x, cv y]) := by rw [← hH9]; exact upd_same
          have step : ((List.zipWith (pick b) c d).take (a + 1)).map cv = ((List.zipWith (pick b) c d).take a).map cv ++ [cv (pick b x y)] := by
            have hz : (List.zipWith (pick b) c d)[a]? = some (pick b x y) := zip_at.mpr ⟨x, y, hx, hy, rfl⟩
            rw [List.take_add_one, hz, List.map_append]
            rfl
          have ltake : (((List.zipWith (pick b) c d).take a).map cv).length < 100000 := by
            rw [List.length_map, List.length_take]; omega
          refine ⟨T3, _, rfl, SqT.of hT9, rfl, _, _, rfl, _, _, rfl, rfl, ?_⟩
          -- the numbers of the two
          refine ⟨cv x, rfl, cv y, rfl, sz (n := 2) (by decide), fun pp H10 npp eH10 => ?_⟩
          have s10 : Same H9 H10 := by rw [eH10]; exact sm_new npp
          refine ⟨pp, rfl, ⟨_, SqT.of (at_new eH10)⟩, fun D nD => ?_⟩
          refine lc_tup (xs := [cv x, cv y]) (Pv := fun i H' => Same H10 H' ∧ (i = 0 → H' D = some (.lst [])) ∧ (i = 1 → H' D = some (.lst (x.toList.map V.int))) ∧ (i = 2 → H' D = some (.lst ((numsOf x y).map V.int)))) ⟨sm_new nD, fun _ => upd_same, (fun z => nomatch z), (fun z => nomatch z)⟩ (fun i H' _ p => SqT.of (p.1 _ _ (at_new eH10))) (fun i v H' hi p => ?_) (fun H11 p => ?_)
          · obtain ⟨s', p0, p1, p2⟩ := p
            match i, hi with
            | 0, hi =>
              cases hi
              cases x with
              | none => exact ⟨rfl, .non, rfl, rfl, _, rfl, s', (fun z => nomatch z), fun _ => p0 rfl, (fun z => nomatch z)⟩
              | some x => exact ⟨rfl, .int x, rfl, rfl, _, rfl, .int x, rfl, [], p0 rfl, szl (by decide), sm_mut s' nD, (fun z => nomatch z), (fun _ => upd_same), (fun z => nomatch z)⟩
            | 1, hi =>
              cases hi
              cases y with
              | none =>
                refine ⟨rfl, .non, rfl, rfl, _, rfl, s', (fun z => nomatch z), (fun z => nomatch z), fun _ => ?_⟩
                rw [p1 rfl, numsOf]
                simp
              | some y =>
                refine ⟨rfl, .int y, rfl, rfl, _, rfl, .int y, rfl, _, p1 rfl, szl (by rw [List.length_map]; cases x <;> simp), sm_mut s' nD, (fun z => nomatch z), (fun z => nomatch z), fun _ => ?_⟩
                rw [upd_same, numsOf]
                simp
          · obtain ⟨s11, _, _, p2⟩ := p
            have hD := p2 rfl
            have s811 : Same H8 H11 := (s9.trans s10).trans s11
            have neD : D ≠ ph := fun z => by
              have := (s9.trans s10) _ _ hph
              rw [← z, nD] at this
              cases this
            have hph11 := s811 _ _ hph
            have fin : ∀ H12 : Hp, Same H11 H12 → ∀ o : Option Int, pick b x y = o → Same H6 (upd H12 ph (.lst (((List.zipWith (pick b) c d).take a).map cv ++ [cv o]))) ∧ (upd H12 ph (.lst (((List.zipWith (pick b) c d).take a).map cv ++ [cv o]))) ph = some (.lst (((List.zipWith (pick b) c d).take (a + 1)).map cv)) := fun H12 s12 o eo => by
              refine ⟨sm_mut ((s8.trans s811).trans s12) nph, ?_⟩
              rw [upd_same, step, eo]
            cases b with
            | true =>
              refine ⟨.bl true, rfl, _, rfl, .ref ph, rfl, .inl ⟨rfl, _, SqL.of hph11⟩, ?_⟩
              refine ⟨.ref D, rfl, sz (n := 0) (by decide), fun pe H12 npe eH12 => ?_⟩
              have s12 : Same H11 H12 := by rw [eH12]; exact sm_new npe
              refine ⟨.list ((numsOf x y).map PyData.int), .list [], .lst (SqL.of (s12 _ _ hD)) (dp_ints _), .lst (SqL.of (at_new eH12)) .nil, ints_shaped _, rfl, ?_⟩
              rw [eqv_nil]
              by_cases e : numsOf x y = []
              · rw [decide_eq_true e]
                obtain ⟨f1, f2⟩ := fin H12 s12 none (lo_nil e)
                exact ⟨_, rfl, ph, _, .non, rfl, rfl, s12 _ _ hph11, szl ltake, f1, f2, _, _, _, _, rfl⟩
              · rw [decide_eq_false e]
                refine ⟨_, rfl, .ref D, rfl, D, numsOf x y, rfl, SqL.of (s12 _ _ hD), List.length_pos_iff.mpr e, fun m hm1 hm2 => ?_⟩
                obtain ⟨f1, f2⟩ := fin H12 s12 (some m) (lo_min hm1 hm2)
                exact ⟨ph, _, .int m, rfl, rfl, s12 _ _ hph11, szl ltake, f1, f2, _, _, _, _, rfl⟩
            | false =>
              refine ⟨.bl false, rfl, _, rfl, .ref ph, rfl, .inl ⟨rfl, _, SqL.of hph11⟩, ?_⟩
              refine ⟨.ref D, rfl, .ref D, (numsOf x y).length, rfl, .inl ⟨_, SqL.of hD, by rw [List.length_map]⟩, rfl, ?_⟩
              by_cases e : (numsOf x y).length = 2
              · rw [decide_eq_true (show V.int ((numsOf x y).length : Int) = V.int 2 by rw [e]; rfl)]
                refine ⟨_, rfl, .ref D, rfl, D, numsOf x y, rfl, SqL.of hD, by omega, fun m hm1 hm2 => ?_⟩
                obtain ⟨f1, f2⟩ := fin H11 (Same.refl _) (some m) (hi_max e hm1 hm2)
                exact ⟨ph, _, .int m, rfl, rfl, hph11, szl ltake, f1, f2, _, _, _, _, rfl⟩
              · rw [decide_eq_false (show ¬ V.int ((numsOf x y).length : Int) = V.int 2 from fun z => e (by injection z with z; omega))]
                obtain ⟨f1, f2⟩ := fin H11 (Same.refl _) none (hi_few e)
                exact ⟨_, rfl, ph, _, .non, rfl, rfl, hph11, szl ltake, f1, f2, _, _, _, _, rfl⟩
        · obtain ⟨s8, hph, y10, y11, y12, y13, rfl⟩ := h
          have full : (List.zipWith (pick b) c d).take (c.map cv).length = List.zipWith (pick b) c d := List.take_of_length_le (by rw [List.length_zipWith, List.length_map]; omega)
          rw [full] at hph
          have s58 := s6.trans s8
          have hacc8 := s58 _ _ hacc2
          refine ⟨.ref pn, rfl, .inl ⟨rfl, _, SqL.of hacc8⟩, ?_⟩
          refine ⟨.ref ph, rfl, ph, _, rfl, .inl ⟨SqL.of hph, fun l nl => ?_⟩⟩
          have s9 : Same H8 (upd H8 l (.tup ((List.zipWith (pick b) c d).map cv))) := sm_new nl
          have hl : (upd H8 l (.tup ((List.zipWith (pick b) c d).map cv))) l = some (.tup ((List.zipWith (pick b) c d).map cv)) := upd_same
          generalize upd H8 l (.tup ((List.zipWith (pick b) c d).map cv)) = H9 at s9 hl ⊢
          have hacc9 := s9 _ _ hacc8
          have hmu : m < us.length := hm
          refine ⟨pn, acc2, .ref l, rfl, rfl, hacc9, szl (by omega), sm_mut ((s5.trans s58).trans s9) npn, ⟨acc2 ++ [.ref l], upd_same, by rw [List.length_append, lacc2]; rfl, ?_⟩, _, _, _, _, _, _, _, rfl⟩
          have T9 : Tk H9 (upd H9 pn (.lst (acc2 ++ [.ref l]))) := Tk.lst hacc9
          refine app_at (R := fun j y => ∃ c d, r[j]? = some c ∧ s'[j]? = some d ∧ Ste (upd H9 pn (.lst (acc2 ++ [.ref l]))) y (List.zipWith (pick b) c d)) (fun j y hy => ?_) ⟨c, d, by rw [lacc2]; exact hc1, by rw [lacc2]; exact hd1, l, rfl, T9 _ _ hl⟩
          obtain ⟨c', d', k1, k2, k3⟩ := ac2 j y hy
          exact ⟨c', d', k1, k2, (k3.mono (same_tk (s58.trans s9))).mono T9⟩
      · obtain ⟨s5, ⟨acc2, hacc2, lacc2, ac2⟩, y7, y8, y9, y10, y11, y12, y13, rfl⟩ := h
        have s25 := s3.trans s5
        have hacc5 := s25 _ _ hacc
        refine ⟨.ref pf, rfl, .inl ⟨rfl, _, SqL.of hacc5⟩, ?_⟩
        refine ⟨.ref pn, rfl, pn, _, rfl, .inl ⟨SqL.of hacc2, fun l nl => ?_⟩⟩
        have s6 : Same H5 (upd H5 l (.tup acc2)) := sm_new nl
        have hl : (upd H5 l (.tup acc2)) l = some (.tup acc2) := upd_same
        generalize upd H5 l (.tup acc2) = H6 at s6 hl ⊢
        have hacc6 := s6 _ _ hacc5
        have hix : i < xs.length := hi
        refine ⟨pf, acc, .ref l, rfl, rfl, hacc6, szl (by omega), sm_mut ((s2.trans s25).trans s6) npf, ⟨acc ++ [.ref l], upd_same, by rw [List.length_append, lacc]; rfl, ?_⟩, _, _, _, _, _, _, _, _, _, _, rfl⟩
        have T6 : Tk H6 (upd H6 pf (.lst (acc ++ [.ref l]))) := Tk.lst hacc6
        refine app_at (R := fun j y => ∃ r s, A[j]? = some r ∧ B[j]? = some s ∧ Rwe (upd H6 pf (.lst (acc ++ [.ref l]))) y (List.zipWith (List.zipWith (pick b)) r s)) (fun j y hy => ?_) ⟨r, s', by rw [lacc]; exact hr1, by rw [lacc]; exact hs1, l, acc2, rfl, T6 _ _ hl, ?_, fun m y z hy hz => ?_⟩
        · obtain ⟨r', s'', k1, k2, k3⟩ := ac j y hy
          exact ⟨r', s'', k1, k2, (k3.mono (same_tk (s25.trans s6))).mono T6⟩
        · rw [lacc2, List.length_zipWith]; omega
        · obtain ⟨c, d, h1, h2, hst⟩ := ac2 m y hy
          obtain ⟨c', d', h1', h2', rfl⟩ := zip_at.mp hz
          rw [h1] at h1'; cases h1'
          rw [h2] at h2'; cases h2'
          exact (hst.mono (same_tk s6)).mono T6
    · obtain ⟨s2, ⟨acc, hacc, lacc, ac⟩, y4, y5, y6, y7, y8, y9, y10, y11, y12, y13, rfl⟩ := h
      refine ⟨.ref pf, rfl, pf, _, rfl, .inl ⟨SqL.of hacc, fun l nl => q _ _ (s2.trans (sm_new nl)) ⟨l, acc, rfl, upd_same, ?_, fun j y z hy hz => ?_⟩⟩⟩
      · show acc.length = (List.zipWith _ A B).length
        rw [lacc, List.length_zipWith]; omega
      · obtain ⟨r, s, h1, h2, hst⟩ := ac j y hy
        obtain ⟨r', s', h1', h2', rfl⟩ := zip_at.mp hz
        rw [h1] at h1'; cases h1'
        rw [h2] at h2'; cases h2'
        exact hst.mono (Tk.new nl)
end
end Rt
namespace Rt
open PySem PySem.Spec PyProof.Rows L2
theorem pi_enumK {X : Cx} {K : PySem.W.Frag} {e : Expr} {ta : TA} {p pos tpos : Pos} {elts : List Expr} {kk : Nat} (hg : Gl X "enumerate") (hm : X.mg "enumerate" = none) (ha : PA X [e] ta) (ek : X.K = K := by rfl) (hs : starEach [e] X.env = [(false, eval e X.env)] := by rfl) :
    PI X (.Tuple elts kk tpos) (.Call (.Name "enumerate" p) [e] [] pos) (iEnumT K ta) := by
  subst ek
  exact pi_enumT hg hm ha hs
theorem walk_zipM {K : PySem.W.Frag} {a b : Addr} {xs ys : List V} (hn : ys.length ≤ xs.length) : Walk (RZ.ItzT K a b) ys.length (fun H => SqT K H a xs ∧ SqT K H b ys) (YPair (fun i => xs[i]?) (fun i => ys[i]?)) := by
  refine ⟨fun i H hi z => ?_, fun H z => ⟨xs, ys, z.1, z.2, .inr (Nat.le_refl _)⟩, fun i H v H' hi z y => ?_⟩
  · have h2 : i < xs.length := by omega
    exact ⟨xs, ys, xs[i], ys[i], z.1, z.2, by simp [h2], by simp [hi]⟩
  · obtain ⟨T, x, u, h1, h2, h3, h4, h5⟩ := y
    exact ⟨T, x, u, h1, h2, h3, h4 xs z.1, h5 ys z.2⟩
/-- a comprehension over a tuple that tells one truth each time -/
theorem lcB {K : PySem.W.Frag} {a : Addr} {xs : List V} {gt : TG} {te : TE} {vs : List Nat} {σ : L2.St} {H1 : Hp} {D : Addr} {Qd : Hp → Prop} (b : Bool) (hD : H1 D = none) (ha : H1 a = some (.tup xs)) (hn : xs.length ≤ 1000)
    (hs : ∀ (i : Nat) x H, Same H1 H → xs[i]? = some x → ∀ Qk : VK, (∀ H', Same H H' → Qk (.bl b) H') → gt x (wipe σ vs) H fun σ2 H2 => wipe σ2 vs = wipe σ vs ∧ te σ2 H2 Qk)
    (hd : ∀ H, Same H1 H → H D = some (.lst ((List.replicate xs.length b).map V.bl)) → Qd H) :
    ∃ W : Nat → Nat → Hp → Prop, (∃ m, W 0 m (upd H1 D (.lst []))) ∧ ∀ i m H, W i m H →
      ((Itt K a).stop i H ∧ Qd H) ∨ ((Itt K a).go i H ∧ ∃ Nx : Hp → Prop, (∀ H', Nx H' → ∃ m', m' < m ∧ W (i + 1) m' H') ∧ ∀ x H', (Itt K a).yld i H x H' → gt x (wipe σ vs) H' fun σ2 H2 => wipe σ2 vs = wipe σ vs ∧ tYes σ2 H2 fun b H3 =>
        if b = true then te σ2 H3 fun y H4 => ∃ acc, H4 D = some (.lst acc) ∧ acc.length < sizeLine ∧ Nx (upd H4 D (.lst (acc ++ [y]))) else Nx H3) := by
  refine lc_it (tt := tYes) (walk_tup (xs := xs)) (fun i H => Same H1 H ∧ H D = some (.lst ((List.replicate i b).map V.bl))) ⟨sm_new hD, upd_same⟩ (fun i H' _ h => SqT.of (h.1 _ _ ha)) (fun i v H H2 hi h hY => ?_) (fun H h => hd H h.1 h.2)
  obtain ⟨sm, eD⟩ := h
  obtain ⟨rfl, hx⟩ := hY
  refine hs i v _ sm hx _ (fun H3 s3 => ⟨_, s3 _ _ eD, szl (by rw [List.length_map, List.length_replicate]; omega), sm_mut (sm.trans s3) hD, ?_⟩)
  rw [upd_same, List.replicate_succ']
  simp
theorem all_rep (n : Nat) : (List.replicate n true).all id = true := by simp
theorem any_rep (n : Nat) : (List.replicate n false).any id = false := by simp
section
variable {P : Program} {w : World} {K : PySem.W.Frag} {mg : Str → Option Value} {base : Heap}
def spNumb : Sp := fun vs H Q _ => ∃ i : Int, vs = [.int i] ∧ Q (.bl true) H
theorem ok_numb {f : Addr} {fd : FuncData} (F : Fun K "is_number" "is_number" s_is_number f fd) (m_isinstance : mg "isinstance" = none) (m_int : mg "int" = none) (m_bool : mg "bool" = none) : FnOk P w K mg base CX0 1 f fd ["thing"] spNumb := by
  refine F.ok sc_is_number (fun vs H Q E h => ?_) (fun cdv A outer s H vs Q E hr h => ?_)
  · obtain ⟨i, rfl, _⟩ := h
    rfl
  · obtain ⟨i, rfl, q⟩ := h
    refine ⟨_, (pss_one (ps_ret (pe_and (pe_callB call_isi (by rfl) m_isinstance (by decide +kernel) (pa_cons (pv 0) (pa_cons (pe_bltn (v := .ty "int") (by rfl) m_int (by decide +kernel) rfl) pa_nil))) (pe_one (pe_not (pe_callB call_isi (by rfl) m_isinstance (by decide +kernel) (pa_cons (pv 0) (pa_cons (pe_bltn (v := .ty "bool") (by rfl) m_bool (by decide +kernel) rfl) pa_nil)))))))), ?_⟩
    exact ⟨.int i, rfl, _, _, .type "int", .type "int", true, rfl, .ty _, .base (.int i), kit_ty (by decide +kernel), _, rfl, .int i, rfl, _, _, .type "int", .type "bool", false, rfl, .ty _, .base (.int i), kit_ty (by decide +kernel), _, rfl, q⟩
def spFrom : Sp := fun vs H Q _ => ∃ i lo hi : Int, vs = [.int i, .int lo, .int hi] ∧ lo ≤ i ∧ i ≤ hi ∧ Q (.bl true) H
theorem ok_from {f : Addr} {fd : FuncData} (F : Fun K "is_number_from" "is_number_from" s_is_number_from f fd) (C_is_number : Cl P w K mg base 1 "is_number" ["thing"] spNumb) : FnOk P w K mg base CX0 2 f fd ["thing", "low", "high"] spFrom := by
  refine F.ok sc_is_number_from (fun vs H Q E h => ?_) (fun cdv A outer s H vs Q E hr h => ?_)
  · obtain ⟨i, lo, hi, rfl, _⟩ := h
    rfl
  · obtain ⟨i, lo, hi, rfl, h1, h2, q⟩ := h
    refine ⟨_, (pss_one (ps_ret (pe_and (pe_cl C_is_number (hr.mono (by omega)) (by rfl) (pa_cons (pv 0) pa_nil)) (pe_one (pe_chain op_le op_le (pv 1) (pv 0) (pv 2)))))), ?_⟩
    refine ⟨.int i, rfl, i, rfl, _, rfl, .int lo, rfl, .int i, rfl, lo, i, rfl, rfl, _, rfl, ite2 (fun _ => ?_) (fun e => absurd (decide_eq_true h1) e)⟩
    refine ⟨.int hi, rfl, i, hi, rfl, rfl, ?_⟩
    show Q (.bl (decide (i ≤ hi))) H
    rw [decide_eq_true h2]
    exact q
def spRow : Sp := fun vs H Q _ => ∃ (a : Addr) (xs : List V) (lo hi : Int), vs = [.ref a, .int lo, .int hi] ∧ H a = some (.tup xs) ∧ lo ≤ xs.length ∧ (xs.length : Int) ≤ hi ∧ Q (.bl true) H
theorem ok_row {f : Addr} {fd : FuncData} (F : Fun K "is_row" "is_row" s_is_row f fd) (m_isinstance : mg "isinstance" = none) (m_tuple : mg "tuple" = none) (m_len : mg "len" = none) : FnOk P w K mg base CX0 1 f fd ["thing", "fewest", "most"] spRow := by
  refine F.ok sc_is_row (fun vs H Q E h => ?_) (fun cdv A outer s H vs Q E hr h => ?_)
  · obtain ⟨a, xs, lo, hi, rfl, _⟩ := h
    rfl
  · obtain ⟨a, xs, lo, hi, rfl, ha, h1, h2, q⟩ := h
    refine ⟨_, (pss_one (ps_ret (pe_and (pe_callB call_isi (by rfl) m_isinstance (by decide +kernel) (pa_cons (pv 0) (pa_cons (pe_bltn (v := .ty "tuple") (by rfl) m_tuple (by decide +kernel) rfl) pa_nil))) (pe_one (pe_chain op_le op_le (pv 1) (pe_callB call_len (by rfl) m_len (by decide +kernel) (pa_cons (pv 0) pa_nil)) (pv 2)))))), ?_⟩
    refine ⟨.ref a, rfl, _, _, .type "tuple", .type "tuple", true, rfl, .ty _, .base (.tup ha), kit_ty (by decide +kernel), _, rfl, ?_⟩
    refine ⟨.int lo, rfl, .ref a, rfl, .ref a, xs.length, rfl, .inr ⟨_, SqT.of ha, rfl⟩, lo, _, rfl, rfl, _, rfl, ite2 (fun _ => ?_) (fun e => absurd (decide_eq_true h1) e)⟩
    refine ⟨.int hi, rfl, _, hi, rfl, rfl, ?_⟩
    show Q (.bl (decide ((xs.length : Int) ≤ hi))) H
    rw [decide_eq_true h2]
    exact q
def spCellOk : Sp := fun vs H Q _ => ∃ (p : Addr) (n : Int) (rest : List V) (pl : Int) (c : Option Int), vs = [.ref p, .int pl, cv c] ∧ H p = some (.tup (.int n :: rest)) ∧ 1 ≤ n ∧ (∀ i, c = some i → i % n = pl ∧ -20 ≤ i ∧ i ≤ 3000000000000000) ∧ Q (.bl true) H
theorem ok_cellok {f : Addr} {fd : FuncData} {tk tk2 : Tok} (F : Fun K "is_cell" "is_cell" s_is_cell f fd) (g_OLD : mg "OLD" = some (.int 20 tk)) (g_LAST : mg "LAST" = some (.int 3000000000000000 tk2)) (C_is_number_from : Cl P w K mg base 2 "is_number_from" ["thing", "low", "high"] spFrom) (C_place_of : Cl P w K mg base 1 "place_of" ["world", "number"] spPlace) : FnOk P w K mg base CX0 3 f fd ["world", "place", "cell"] spCellOk := by
  refine F.ok sc_is_cell (fun vs H Q E h => ?_) (fun cdv A outer s H vs Q E hr h => ?_)
  · obtain ⟨p, n, rest, pl, c, rfl, _⟩ := h
    rfl
  · obtain ⟨p, n, rest, pl, c, rfl, hp, n1, hc, q⟩ := h
    refine ⟨_, (pss_one (ps_ret (pe_or (pe_cmpR op_isN (pv 2) pe_non (nomark _)) (pe_one (pe_and (pe_cl C_is_number_from (hr.mono (by omega)) (by rfl) (pa_cons (pv 2) (pa_cons (pe_un un_neg (pe_glob (v := .int 20) (by rfl) g_OLD ⟨_, rfl⟩)) (pa_cons (pe_glob (v := .int 3000000000000000) (by rfl) g_LAST ⟨_, rfl⟩) pa_nil)))) (pe_one (pe_cmpR op_eq (pe_cl C_place_of (hr.mono (by omega)) (by rfl) (pa_cons (pv 0) (pa_cons (pv 2) pa_nil))) (pv 1) (nomark _)))))))), ?_⟩
    cases c with
    | none => exact ⟨.non, rfl, rfl, _, rfl, q⟩
    | some i =>
      obtain ⟨h1, h2, h3⟩ := hc i rfl
      refine ⟨.int i, rfl, rfl, _, rfl, .int i, rfl, 20, rfl, i, -20, 3000000000000000, rfl, h2, h3, _, rfl, .ref p, rfl, .int i, rfl, p, n, i, rest, rfl, hp, n1, fun z ez _ _ => ⟨.int pl, rfl, rfl, ?_⟩⟩
      rw [ez, h1, decide_eq_true rfl]
      exact q
/-- a row that never rises -/
def spAgeRow : Sp := fun vs H Q _ => ∃ (p : Addr) (n : Int) (rest : List V) (pl : Int) (r : Addr) (cs : List (Option Int)), vs = [.ref p, .int pl, .ref r] ∧ H p = some (.tup (.int n :: rest)) ∧ 1 ≤ n ∧ H r = some (.tup (cs.map cv)) ∧ cs.length = 27 ∧ Fall cs ∧ (∀ i, some i ∈ cs → i % n = pl ∧ -20 ≤ i ∧ i ≤ 3000000000000000) ∧ ∀ H', Same H H' → Q (.bl true) H'
theorem ok_agerow {f : Addr} {fd : FuncData} {tk : Tok} (F : Fun K "is_age_row" "is_age_row" s_is_age_row f fd) (g_READY : mg "READY" = some (.int 26 tk)) (m_all : mg "all" = none) (m_any : mg "any" = none) (m_zip : mg "zip" = none) (C_is_row : Cl P w K mg base 1 "is_row" ["thing", "fewest", "most"] spRow) (C_is_cell : Cl P w K mg base 3 "is_cell" ["world", "place", "cell"] spCellOk) (C_is_above : Cl P w K mg base 1 "is_above" ["one", "other"] spAbove) : FnOk P w K mg base CX0 4 f fd ["world", "place", "row"] spAgeRow := by
  refine F.ok sc_is_age_row (fun vs H Q E h => ?_) (fun cdv A outer s H vs Q E hr h => ?_)
  · obtain ⟨p, n, rest, pl, r, cs, rfl, _⟩ := h
    rfl
  · obtain ⟨p, n, rest, pl, r, cs, rfl, hp, n1, hr1, lcs, fl, bd, q⟩ := h
    refine ⟨_, (pss_cons (ps_if (pt_not (pt_val (pe_cl C_is_row (hr.mono (by omega)) (by rfl) (pa_cons (pv 2) (pa_cons (pe_op op_addL (pe_glob (v := .int 26) (by rfl) g_READY ⟨_, rfl⟩) pe_int) (pa_cons (pe_op op_addL (pe_glob (v := .int 26) (by rfl) g_READY ⟨_, rfl⟩) pe_int) pa_nil))))))
    (pss_one (ps_ret pe_bl))
    pss_nil)
  (pss_cons (ps_if (pt_not (pt_val (pe_callB (cr_all rfl) (by rfl) m_all (by decide +kernel) (pa_cons (pe_lc (own := [("cell", 3)]) (g := (gName 3)) (tt := tYes) rfl sc_is_age_row.nd (pi_tup (pv 2)) (blkOk_by (own := [("cell", 3)]) (N := ["world", "place", "row", "cell", "ahead", "behind"]) (sc := defScope s_is_age_row) (by decide +kernel)) (fun _ _ _ _ _ => (pg_name (i := 3) sc_is_age_row.nd rfl (.inl rfl))) (fun _ _ _ _ _ => pts_nil) (fun _ _ _ _ _ => (pe_cl C_is_cell (hr.mono (by omega)) (by rfl) (pa_cons (pv 0) (pa_cons (pv 1) (pa_cons (pv 3) pa_nil)))))) pa_nil))))
    (pss_one (ps_ret pe_bl))
    pss_nil)
  (pss_one (ps_ret (pe_not (pe_callB (cr_any rfl) (by rfl) m_any (by decide +kernel) (pa_cons (pe_lc (own := [("ahead", 4), ("behind", 5)]) (g := (gTup K 2 (gCons (gName 4) (gCons (gName 5) gNil)))) (tt := tYes) rfl sc_is_age_row.nd ((pi_zipK (K := K)) (by rfl) m_zip (pa_cons (pv 2) (pa_cons (pe_slice sl_tupS (pv 2) (po_some pe_int) po_none) pa_nil))) (blkOk_by (own := [("ahead", 4), ("behind", 5)]) (N := ["world", "place", "row", "cell", "ahead", "behind"]) (sc := defScope s_is_age_row) (by decide +kernel)) (fun _ _ _ _ _ => (pg_tup (by rfl) (pgs_cons (pg_name (i := 4) sc_is_age_row.nd rfl (.inl rfl)) (pgs_cons (pg_name (i := 5) sc_is_age_row.nd rfl (.inl rfl)) pgs_nil)))) (fun _ _ _ _ _ => pts_nil) (fun _ _ _ _ _ => (pe_cl C_is_above (hr.mono (by omega)) (by rfl) (pa_cons (pv 5) (pa_cons (pv 4) pa_nil))))) pa_nil))))))), ?_⟩
    dsimp only [tSeq, tNext]
    refine ifF (fun Q1 q1 => ?_) ?_
    · refine ⟨.ref r, rfl, 26, 1, rfl, rfl, fun z1 ez1 => ⟨26, 1, rfl, rfl, fun z2 ez2 => ⟨r, _, z1, z2, rfl, hr1, ?_, ?_, _, rfl, q1⟩⟩⟩
      · rw [List.length_map]; omega
      · rw [List.length_map]; omega
    dsimp only [tSeq, tNext]
    refine ifFS (fun Q1 q1 => ?_) (fun H1 s1 => ?_)
    · refine ⟨.ref r, rfl, r, rfl, ⟨_, SqT.of hr1⟩, fun D nD => ?_⟩
      refine lcB true nD hr1 (by rw [List.length_map]; omega) (fun i x H1 s1 hx Qk qk => ?_) (fun H1 s1 eD => ⟨D, _, rfl, SqL.of eD, ?_⟩)
      · rw [List.getElem?_map] at hx
        cases e : cs[i]? with
        | none => rw [e] at hx; cases hx
        | some c =>
          rw [e] at hx
          cases hx
          exact ⟨rfl, .ref p, rfl, .int pl, rfl, cv c, rfl, p, n, rest, pl, c, rfl, s1 _ _ hp, n1, fun i ei => bd i (ei ▸ List.mem_of_getElem? e), qk _ (Same.refl _)⟩
      · rw [all_rep]
        exact ⟨_, rfl, q1 _ s1⟩
    have hr2 := s1 _ _ hr1
    refine ⟨.ref r, rfl, .ref r, rfl, 1, rfl, r, _, rfl, hr2, fun pz H2 s2 e2 => ?_⟩
    have cut := cut_hi (xs := cs.map cv) (m := 1) (by rw [List.length_map]; omega)
    have e2 : H2 pz = some (.tup ((cs.map cv).drop 1)) := by rw [← cut]; exact e2
    have ldrop : ((cs.map cv).drop 1).length = 26 := by rw [List.length_drop, List.length_map, lcs]
    refine ⟨r, pz, _, _, rfl, .inr ⟨SqT.of (s2 _ _ hr2), SqT.of e2, fun D nD => ?_⟩⟩
    refine lc_it (tt := tYes) (walk_zipM (K := K) (xs := cs.map cv) (ys := (cs.map cv).drop 1) (by rw [ldrop, List.length_map]; omega)) (fun i H' => Same H2 H' ∧ H' D = some (.lst ((List.replicate i false).map V.bl))) ⟨sm_new nD, upd_same⟩ (fun i H' _ h => ⟨SqT.of (h.1 _ _ (s2 _ _ hr2)), SqT.of (h.1 _ _ e2)⟩) (fun i v H3 H4 hi h hY => ?_) (fun H3 h => ?_)
    · obtain ⟨s3, eD⟩ := h
      obtain ⟨T, x1, x2, rfl, nT, rfl, y1, y2⟩ := hY
      have y1 : (cs.map cv)[i]? = some x1 := y1
      have y2 : ((cs.map cv).drop 1)[i]? = some x2 := y2
      rw [ldrop] at hi
      have l1 : i < cs.length := by omega
      have l2 : i + 1 < cs.length := by omega
      obtain ⟨c, hc⟩ : ∃ c, cs[i]? = some c := ⟨_, List.getElem?_eq_getElem l1⟩
      obtain ⟨d, hd⟩ : ∃ c, cs[i + 1]? = some c := ⟨_, List.getElem?_eq_getElem l2⟩
      rw [List.getElem?_map, hc] at y1
      rw [List.getElem?_drop, Nat.add_comm 1 i, List.getElem?_map, hd] at y2
      cases y1
      cases y2
      have s4 : Same H3 (upd H3 T (.tup [cv c, cv d])) := sm_new nT
      refine ⟨T, _, rfl, SqT.of upd_same, rfl, _, _, rfl, _, _, rfl, rfl, rfl, ?_⟩
      refine ⟨cv d, rfl, cv c, rfl, d, c, rfl, ?_⟩
      have no : aboveB d c = false := by
        cases c with
        | none => cases d <;> rfl
        | some a =>
          obtain ⟨b, hb, le⟩ := fl i (i + 1) a (by omega) l2 hc
          rw [hd] at hb
          cases hb
          exact decide_eq_false (by omega)
      rw [no]
      refine ⟨_, s4 _ _ eD, szl (by rw [List.length_map, List.length_replicate]; omega), sm_mut (s3.trans s4) nD, ?_⟩
      rw [upd_same, List.replicate_succ']
      simp
    · refine ⟨D, _, rfl, SqL.of h.2, ?_⟩
      rw [any_rep]
      exact ⟨_, rfl, q _ ((s1.trans s2).trans h.1)⟩
def FallM (T : Mt) : Prop := ∀ (j : Nat) r (m : Nat) c, T[j]? = some r → r[m]? = some c → Fall c
def spIsTab : Sp := fun vs H Q _ => ∃ (p : Addr) (n : Int) (pk : Addr) (ok : Obj) (ks : List Str) (ps pw : Addr) (v : V) (T : Mt), vs = [.ref p, v] ∧ Wl H p n pk ok ks ps pw ∧ Tbe H v T ∧ Dim n ks.length T ∧ FallM T ∧ ∀ H', Same H H' → Q (.bl true) H'
theorem ok_istab {f : Addr} {fd : FuncData} (F : Fun K "is_table" "is_table" s_is_table f fd) (m_len : mg "len" = none) (m_all : mg "all" = none) (m_enumerate : mg "enumerate" = none) (C_is_row : Cl P w K mg base 1 "is_row" ["thing", "fewest", "most"] spRow) (C_is_age_row : Cl P w K mg base 4 "is_age_row" ["world", "place", "row"] spAgeRow) : FnOk P w K mg base CX0 5 f fd ["world", "thing"] spIsTab := by
  refine F.ok sc_is_table (fun vs H Q E h => ?_) (fun cdv A outer s H vs Q E hr h => ?_)
  · obtain ⟨p, n, pk, ok, ks, ps, pw, v, T, rfl, _⟩ := h
    rfl
  · obtain ⟨p, n, pk, ok, ks, ps, pw, v, T, rfl, W, ⟨t, xs, rfl, ht, al⟩, dT, fT, q⟩ := h
    have n1 := W.n1
    have n6 := W.n6
    have k4 := W.k4
    have lx := al.1
    have lT := dT.rows
    refine ⟨_, (pss_cons (ps_asg (pv 0) (pg_tup (by rfl) (pgs_cons (pg_name (i := 2) sc_is_table.nd rfl (.inr rfl)) (pgs_cons (pg_name (i := 3) sc_is_table.nd rfl (.inl rfl)) (pgs_cons (pg_name (i := 4) sc_is_table.nd rfl (.inl rfl)) (pgs_cons (pg_name (i := 5) sc_is_table.nd rfl (.inl rfl)) pgs_nil))))))
  (pss_cons (ps_if (pt_not (pt_val (pe_cl C_is_row (hr.mono (by omega)) (by rfl) (pa_cons (pv 1) (pa_cons (pe_callB call_len (by rfl) m_len (by decide +kernel) (pa_cons (pv 3) pa_nil)) (pa_cons (pe_callB call_len (by rfl) m_len (by decide +kernel) (pa_cons (pv 3) pa_nil)) pa_nil))))))
    (pss_one (ps_ret pe_bl))
    pss_nil)
  (pss_cons (ps_if (pt_not (pt_val (pe_callB (cr_all rfl) (by rfl) m_all (by decide +kernel) (pa_cons (pe_lc (own := [("rows", 6)]) (g := (gName 6)) (tt := tYes) rfl sc_is_table.nd (pi_tup (pv 1)) (blkOk_by (own := [("rows", 6)]) (N := ["world", "thing", "span", "kinds", "sources", "ways", "rows", "place", "row"]) (sc := defScope s_is_table) (by decide +kernel)) (fun _ _ _ _ _ => (pg_name (i := 6) sc_is_table.nd rfl (.inl rfl))) (fun _ _ _ _ _ => pts_nil) (fun _ _ _ _ _ => (pe_cl C_is_row (hr.mono (by omega)) (by rfl) (pa_cons (pv 6) (pa_cons (pv 2) (pa_cons (pv 2) pa_nil)))))) pa_nil))))
    (pss_one (ps_ret pe_bl))
    pss_nil)
  (pss_one (ps_ret (pe_callB (cr_all rfl) (by rfl) m_all (by decide +kernel) (pa_cons (pe_lc2 (own := [("rows", 6), ("place", 7), ("row", 8)]) (vs1 := [7, 8]) (g := (gName 6)) (g1 := (gTup K 2 (gCons (gName 7) (gCons (gName 8) gNil)))) (tt := tYes) (tt1 := tYes) rfl sc_is_table.nd (pi_tup (pv 1)) (blkOk_by (own := [("rows", 6), ("place", 7), ("row", 8)]) (N := ["world", "thing", "span", "kinds", "sources", "ways", "rows", "place", "row"]) (sc := defScope s_is_table) (by decide +kernel)) (by decide) (fun _ _ _ _ _ => (pg_name (i := 6) sc_is_table.nd rfl (.inl rfl))) (fun _ _ _ _ _ => pts_nil) (fun _ _ _ _ _ => ((pi_enumK (K := K)) (by rfl) m_enumerate (pa_cons (pv 6) pa_nil))) (fun _ _ _ _ _ => (pg_tup (by rfl) (pgs_cons (pg_name (i := 7) sc_is_table.nd rfl (.inl rfl)) (pgs_cons (pg_name (i := 8) sc_is_table.nd rfl (.inl rfl)) pgs_nil)))) (fun _ _ _ _ _ => pts_nil) (fun _ _ _ _ _ => (pe_cl C_is_age_row (hr.mono (by omega)) (by rfl) (pa_cons (pv 0) (pa_cons (pv 7) (pa_cons (pv 8) pa_nil)))))) pa_nil))))))), ?_⟩
    refine ⟨.ref p, rfl, p, _, rfl, SqT.of W.hp, rfl, _, _, rfl, _, _, rfl, _, _, rfl, _, _, rfl, rfl, ?_⟩
    dsimp only [tSeq, tNext]
    refine ifF (fun Q1 q1 => ?_) ?_
    · refine ⟨.ref t, rfl, .ref pk, rfl, .ref pk, ks.length, rfl, .inr ⟨_, SqT.frz W.hk, by rw [List.length_map]⟩, .ref pk, rfl, .ref pk, ks.length, rfl, .inr ⟨_, SqT.frz W.hk, by rw [List.length_map]⟩, t, xs, _, _, rfl, ht, by omega, by omega, _, rfl, q1⟩
    dsimp only [tSeq, tNext]
    refine ifFS (fun Q1 q1 => ?_) (fun H1 s1 => ?_)
    · refine ⟨.ref t, rfl, t, rfl, ⟨_, SqT.of ht⟩, fun D nD => ?_⟩
      refine lcB true nD ht (by omega) (fun i x H1 s1 hx Qk qk => ?_) (fun H1 s1 eD => ⟨D, _, rfl, SqL.of eD, ?_⟩)
      · obtain ⟨r, hr1, hxr⟩ := al.to hx
        obtain ⟨qa, us, rfl, hqa, cl⟩ := hxr.mono (same_tk s1)
        have l1 := cl.1
        have l2 := dT.cols _ _ hr1
        exact ⟨rfl, .ref qa, rfl, .int n, rfl, .int n, rfl, qa, us, n, n, rfl, hqa, by omega, by omega, qk _ (Same.refl _)⟩
      · rw [all_rep]
        exact ⟨_, rfl, q1 _ s1⟩
    have ht1 := s1 _ _ ht
    refine ⟨.ref t, rfl, t, rfl, ⟨_, SqT.of ht1⟩, fun D nD => ?_⟩
    refine ⟨fun i m H' => m = xs.length - i ∧ i ≤ xs.length ∧ Same H1 H' ∧ ∃ k, k ≤ i * 6 ∧ H' D = some (.lst ((List.replicate k true).map V.bl)), ⟨_, rfl, Nat.zero_le _, sm_new nD, 0, Nat.zero_le _, upd_same⟩, ?_⟩
    rintro i m H2 ⟨rfl, hi, s2, k, hk, eD⟩
    by_cases hlt : i < xs.length
    · refine .inr ⟨⟨xs, xs[i], SqT.of (s2 _ _ ht1), by simp [hlt]⟩, fun H' => i + 1 ≤ xs.length ∧ Same H1 H' ∧ ∃ k, k ≤ (i + 1) * 6 ∧ H' D = some (.lst ((List.replicate k true).map V.bl)), fun H' h => ⟨xs.length - (i + 1), by omega, rfl, h⟩, fun x H3 hY => ?_⟩
      obtain ⟨rfl, hx⟩ := hY
      have hx : xs[i]? = some x := hx xs (SqT.of (s2 _ _ ht1))
      obtain ⟨r, hr1, hxr⟩ := al.to hx
      obtain ⟨qa, us, rfl, hq0, cl⟩ := hxr
      have hqa := (s1.trans s2) _ _ hq0
      have l1 := cl.1
      have l2 := dT.cols _ _ hr1
      refine ⟨rfl, .ref qa, rfl, qa, us, rfl, SqT.of hqa, ?_⟩
      refine ⟨fun j m H' => m = us.length - j ∧ j ≤ us.length ∧ Same H1 H' ∧ ∃ k, k ≤ i * 6 + j ∧ H' D = some (.lst ((List.replicate k true).map V.bl)), ⟨_, rfl, Nat.zero_le _, s2, k, hk, eD⟩, ?_⟩
      rintro j m' H4 ⟨rfl, hj, s4, k2, hk2, eD2⟩
      have hqa4 := (s1.trans s4) _ _ hq0
      by_cases hlt2 : j < us.length
      · refine .inr ⟨⟨us, us[j], SqT.of hqa4, by simp [hlt2]⟩, fun H' => j + 1 ≤ us.length ∧ Same H1 H' ∧ ∃ k, k ≤ i * 6 + (j + 1) ∧ H' D = some (.lst ((List.replicate k true).map V.bl)), fun H' h => ⟨us.length - (j + 1), by omega, rfl, h⟩, fun x H5 hY => ?_⟩
        obtain ⟨T2, x3, rfl, nT2, rfl, hx3⟩ := hY
        have hx3 : us[j]? = some x3 := hx3 us (SqT.of hqa4)
        obtain ⟨c, hc1, ra, rfl, hra⟩ := cl.to hx3
        have s5 : Same H4 (upd H4 T2 (.tup [.int (j : Nat), .ref ra])) := sm_new nT2
        have s05 := (s1.trans s4).trans s5
        have lc := dT.len _ _ _ _ hr1 hc1
        refine ⟨T2, _, rfl, SqT.of upd_same, rfl, _, _, rfl, _, _, rfl, rfl, rfl, ?_⟩
        refine ⟨.ref p, rfl, .int (j : Nat), rfl, .ref ra, rfl, p, n, _, (j : Int), ra, c, rfl, s05 _ _ W.hp, n1, s05 _ _ hra, lc, fT _ _ _ _ hr1 hc1, dT.bd _ _ _ _ hr1 hc1, fun H6 s6 => ?_⟩
        refine ⟨_, (s5.trans s6) _ _ eD2, szl (by rw [List.length_map, List.length_replicate]; omega), by omega, sm_mut ((s4.trans s5).trans s6) nD, k2 + 1, by omega, ?_⟩
        rw [upd_same, List.replicate_succ']
        simp
      · have e : j = us.length := by omega
        subst e
        exact .inl ⟨⟨us, SqT.of hqa4, rfl⟩, by omega, s4, k2, by omega, eD2⟩
    · have e : i = xs.length := by omega
      subst e
      refine .inl ⟨⟨xs, SqT.of (s2 _ _ ht1), Nat.le_refl _⟩, ?_⟩
      refine ⟨D, _, rfl, SqL.of eD, ?_⟩
      rw [all_rep]
      exact q _ (s1.trans s2)
end
end Rt
namespace Rt
open PySem PySem.Spec PyProof.Rows L2
theorem lim_c (c : Option Int) (h : ∀ i, c = some i → -20 ≤ i ∧ i ≤ 3000000000000000) : Lim 0 19 (cD c) := by
  cases c with
  | none => exact ⟨rfl, rfl, Nat.le_refl _, by decide⟩
  | some i =>
    have := h i rfl
    obtain ⟨d, t, l⟩ := Sh.int (H := fun _ => none) (i := i) (by omega)
    cases t
    exact l
theorem Dim.lim {n : Int} {nk : Nat} {T : Mt} (d : Dim n nk T) (n6 : n ≤ 6) (k4 : nk ≤ 4) : Lim 3 13751 (mD T) := by
  refine (lim_tup (k := 2) (n := 3435) (m := 4) (fun x hx => ?_) (by rw [List.length_map, d.rows]; exact k4)).up (by decide) (by decide)
  obtain ⟨r, hr, rfl⟩ := List.mem_map.mp hx
  obtain ⟨j, hj⟩ := List.mem_iff_getElem?.mp hr
  refine (lim_tup (k := 1) (n := 570) (m := 6) (fun x hx => ?_) (by rw [List.length_map, d.cols _ _ hj]; omega)).up (by decide) (by decide)
  obtain ⟨c, hc, rfl⟩ := List.mem_map.mp hx
  obtain ⟨m, hm⟩ := List.mem_iff_getElem?.mp hc
  refine (lim_tup (k := 0) (n := 19) (m := 27) (fun x hx => ?_) (by rw [List.length_map, d.len _ _ _ _ hj hm]; exact Nat.le_refl _)).up (by decide) (by decide)
  obtain ⟨v, hv, rfl⟩ := List.mem_map.mp hx
  exact lim_c v fun i e => (d.bd _ _ _ _ hj hm i (e ▸ hv)).2
theorem dpAll_of {K : PySem.W.Frag} {H : Hp} : ∀ {xs : List V} {ds : List PyData}, Al (Dp K H) xs ds → DpAll K H xs ds
  | [], [], _ => .nil
  | [], _ :: _, h => nomatch h.1
  | _ :: _, [], h => nomatch h.1
  | x :: xs, d :: ds, h => .cons (h.2 0 x d rfl rfl) (dpAll_of ⟨Nat.succ.inj h.1, fun i u v a b => h.2 (i + 1) u v a b⟩)
theorem dp_bools {K : PySem.W.Frag} {H : Hp} : ∀ bs : List Bool, DpAll K H (bs.map V.bl) (bs.map PyData.bool)
  | [] => .nil
  | b :: bs => .cons (.bl b) (dp_bools bs)
theorem lim_bools {bs : List Bool} (h : bs.length ≤ 6) : Lim 1 51 (.list (bs.map PyData.bool)) := by
  refine (lim_lst (k := 0) (n := 5) (m := 6) (fun d hd => ?_) (by rw [List.length_map]; exact h)).up (by decide) (by decide)
  obtain ⟨b, _, rfl⟩ := List.mem_map.mp hd
  cases b <;> exact ⟨rfl, rfl, Nat.le_refl _, by decide⟩
end Rt
namespace Rt
open PySem PySem.Spec PyProof.Rows L2
theorem sh_names {H : Hp} {K : PySem.W.Frag} : ∀ {ks : List Str}, (∀ z ∈ ks, Short z) → DpAll K H (ks.map V.str) (ks.map PyData.str) ∧ ∀ d ∈ ks.map PyData.str, Lim 0 19 d
  | [], _ => ⟨.nil, fun d h => nomatch h⟩
  | k :: r, h => by
    obtain ⟨a, b⟩ := sh_names (H := H) (K := K) (ks := r) fun z hz => h z (List.mem_cons_of_mem _ hz)
    refine ⟨.cons (.str k) a, fun d hd => ?_⟩
    rcases List.mem_cons.mp hd with e | e
    · rw [e]; exact ⟨rfl, rfl, Nat.le_refl _, h k List.mem_cons_self⟩
    · exact b d e
/-- a drawn world is data that is shown the same as long as it stands -/
theorem Wl.dp {K : PySem.W.Frag} {H : Hp} {p : Addr} {n : Int} {pk : Addr} {ok : Obj} {ks : List Str} {ps pw : Addr} (h : Wl H p n pk ok ks ps pw) : ∃ d : PyData, Lim 5 90000 d ∧ ∀ {g : Gd} {B : Nat} {H' : Hp}, Fu g B H → Kp g H H' → Dp K H' (.ref p) d := by
  obtain ⟨d1, t1, l1⟩ := h.ss
  obtain ⟨d2, t2, l2⟩ := h.sw
  have n1 := h.n1
  have n6 := h.n6
  refine ⟨.tuple [.int n, .tuple (ks.map PyData.str), d1, d2], ?_, fun {g B H'} F k => ?_⟩
  · refine (lim_tup (k := 4) (n := 20000) (m := 4) (fun d hd => ?_) (Nat.le_refl _)).up (by decide) (by decide)
    simp only [List.mem_cons, List.not_mem_nil, or_false] at hd
    rcases hd with rfl | rfl | rfl | rfl
    · obtain ⟨d, t, l⟩ := Sh.int (H := H) (i := n) (by omega)
      cases t
      exact l.up (by decide) (by decide)
    · exact (lim_tup (m := 4) (sh_names (H := H) (K := K) h.sk).2 (by rw [List.length_map]; exact h.k4)).up (by decide) (by decide)
    · exact l1.up (by decide) (by decide)
    · exact l2
  · exact .tup (SqT.of (F.tk k _ _ h.hp)) (.cons (.int n) (.cons (.tup (SqT.frz (F.fz k h.hk)) (sh_names h.sk).1) (.cons (t1.mono (F.tk k)).dp (.cons (t2.mono (F.tk k)).dp .nil))))
end Rt
namespace Rt
open PySem PySem.Spec PyProof.Rows L2
theorem IsTab.mtF {n : Int} {nk : Nat} {H : Hp} {v : V} (h : IsTab n nk H v) : ∃ T : Mt, Tbe H v T ∧ Dim n nk T ∧ FallM T := by
  obtain ⟨p, rows, rfl, hp, lr, al⟩ := h
  obtain ⟨T, lT, hT⟩ := al_pick (xs := rows) (R := fun _ x css => Rwe H x css ∧ css.length = n.toNat ∧ ∀ (m : Nat) c, css[m]? = some c → c.length = 27 ∧ Fall c ∧ ∀ i, some i ∈ c → i % n = m ∧ -20 ≤ i ∧ i ≤ 3000000000000000) (fun i x hx => by
    obtain ⟨q, sts, rfl, hq, ls, bs⟩ := al x (List.mem_of_getElem? hx)
    obtain ⟨css, lc, hc⟩ := al_pick (xs := sts) (R := fun m x c => Ste H x c ∧ c.length = 27 ∧ Fall c ∧ ∀ i, some i ∈ c → i % n = m ∧ -20 ≤ i ∧ i ≤ 3000000000000000) (fun m y hy => by
      obtain ⟨r, cs, rfl, hr, l, fl, bd⟩ := bs m y hy
      exact ⟨cs, ⟨r, rfl, hr⟩, l, fl, bd⟩)
    refine ⟨css, ⟨q, sts, rfl, hq, lc, fun m y c hy hc2 => (hc m y c hy hc2).1⟩, by omega, fun m c hc2 => ?_⟩
    have hm : m < sts.length := by rw [lc]; exact (List.getElem?_eq_some_iff.mp hc2).1
    exact (hc m _ c (List.getElem?_eq_getElem hm) hc2).2)
  have key : ∀ (j : Nat) r, T[j]? = some r → r.length = n.toNat ∧ ∀ (m : Nat) c, r[m]? = some c → c.length = 27 ∧ Fall c ∧ ∀ i, some i ∈ c → i % n = m ∧ -20 ≤ i ∧ i ≤ 3000000000000000 := fun j r hr => by
    have hj : j < rows.length := by rw [lT]; exact (List.getElem?_eq_some_iff.mp hr).1
    exact (hT j _ r (List.getElem?_eq_getElem hj) hr).2
  exact ⟨T, ⟨p, rows, rfl, hp, lT, fun i x y a b => (hT i x y a b).1⟩, ⟨by omega, fun j r hr => (key j r hr).1, fun j r m c hr hc => ((key j r hr).2 m c hc).1, fun j r m c hr hc => ((key j r hr).2 m c hc).2.2⟩, fun j r m c hr hc => ((key j r hr).2 m c hc).2.1⟩
theorem Tbe.cell {H : Hp} {t : Addr} {B : Mt} (h : Tbe H (.ref t) B) {j m a : Nat} {s : List (List (Option Int))} {d : List (Option Int)} {y : Option Int} (h1 : B[j]? = some s) (h2 : s[m]? = some d) (h3 : d[a]? = some y) : Cell H t j m a y := by
  obtain ⟨t', xs, e, ht, al⟩ := h
  cases e
  obtain ⟨x, hx, q, sts, rfl, hq, bl⟩ := al.at h1
  obtain ⟨x2, hx2, r, rfl, hr⟩ := bl.at h2
  exact ⟨xs, q, sts, r, d, ht, hx, hq, hx2, hr, h3⟩
theorem emptyM_fall (n : Int) (nk : Nat) : FallM (emptyM n nk) := fun j r m c h1 h2 => by
  rw [(emptyM_cell h1 h2).2]
  intro i k a _ _ h
  rw [List.getElem?_replicate] at h
  split at h <;> cases h
/-- falling one beside the other -/
theorem fall_zip {f : Option Int → Option Int → Option Int} (hf : ∀ a b c d x, lec a c → lec b d → f a b = some x → ∃ y, f c d = some y ∧ y ≤ x) {cs ds : List (Option Int)} (h : Fall cs) (k : Fall ds) (l : cs.length = ds.length) : Fall (List.zipWith f cs ds) := by
  intro i j x hij hj hi
  obtain ⟨a, b, ha, hb, e⟩ := zip_at.mp hi
  rw [List.length_zipWith] at hj
  have l1 : j < cs.length := by omega
  have l2 : j < ds.length := by omega
  obtain ⟨c, hc⟩ : ∃ c, cs[j]? = some c := ⟨_, List.getElem?_eq_getElem l1⟩
  obtain ⟨d, hd⟩ : ∃ c, ds[j]? = some c := ⟨_, List.getElem?_eq_getElem l2⟩
  have le1 : lec a c := by
    cases a with
    | none => trivial
    | some a =>
      obtain ⟨b', hb', le⟩ := h i j a hij l1 ha
      rw [hc] at hb'; cases hb'
      exact le
  have le2 : lec b d := by
    cases b with
    | none => trivial
    | some b =>
      obtain ⟨b', hb', le⟩ := k i j b hij l2 hb
      rw [hd] at hb'; cases hb'
      exact le
  obtain ⟨y, ey, ly⟩ := hf a b c d x le1 le2 e
  exact ⟨y, zip_at.mpr ⟨c, d, hc, hd, ey⟩, ly⟩
theorem lec_some {x : Int} {o : Option Int} (h : lec (some x) o) : ∃ y, o = some y ∧ y ≤ x := by
  cases o with
  | none => exact h.elim
  | some y => exact ⟨y, rfl, h⟩
theorem hi_falls (a b c d : Option Int) (x : Int) (h : lec a c) (k : lec b d) (e : hiO a b = some x) : ∃ y, hiO c d = some y ∧ y ≤ x := by
  have l1 : lec (hiO a b) c := lec_trans (hi_lec1 a b) h
  have l2 : lec (hiO a b) d := lec_trans (hi_lec2 a b) k
  have := lec_hi l1 l2
  rw [e] at this
  exact lec_some this
theorem lo_falls (a b c d : Option Int) (x : Int) (h : lec a c) (k : lec b d) (e : loO a b = some x) : ∃ y, loO c d = some y ∧ y ≤ x := by
  have := lo_lec (lec_trans h (lec_lo1 c d)) (lec_trans k (lec_lo2 c d))
  rw [e] at this
  exact lec_some this
theorem FallM.zip {n : Int} {nk : Nat} {A B : Mt} {f : Option Int → Option Int → Option Int} (hf : ∀ a b c d x, lec a c → lec b d → f a b = some x → ∃ y, f c d = some y ∧ y ≤ x) (fa : FallM A) (fb : FallM B) (da : Dim n nk A) (db : Dim n nk B) : FallM (zipM f A B) := fun j r m c h1 h2 => by
  obtain ⟨r1, r2, a1, a2, rfl⟩ := zip_at.mp h1
  obtain ⟨c1, c2, b1, b2, rfl⟩ := zip_at.mp h2
  exact fall_zip hf (fa _ _ _ _ a1 b1) (fb _ _ _ _ a2 b2) (by rw [da.len _ _ _ _ a1 b1, db.len _ _ _ _ a2 b2])
theorem zw_self {α : Type} {g : α → α → α} (h : ∀ x, g x x = x) : ∀ l : List α, List.zipWith g l l = l
  | [] => rfl
  | x :: l => by rw [List.zipWith_cons_cons, h x, zw_self h l]
theorem zw_comm {α β : Type} {g : α → α → β} (h : ∀ x y, g x y = g y x) : ∀ l k : List α, List.zipWith g l k = List.zipWith g k l
  | [], [] => rfl
  | [], _ :: _ => rfl
  | _ :: _, [] => rfl
  | x :: l, y :: k => by rw [List.zipWith_cons_cons, List.zipWith_cons_cons, h x y, zw_comm h l k]
theorem zipM_self {f : Option Int → Option Int → Option Int} (h : ∀ a, f a a = a) (A : Mt) : zipM f A A = A := zw_self (fun r => zw_self (fun c => zw_self h c) r) A
theorem zipM_comm {f : Option Int → Option Int → Option Int} (h : ∀ a b, f a b = f b a) (A B : Mt) : zipM f A B = zipM f B A := zw_comm (fun r s => zw_comm (fun c d => zw_comm h c d) r s) A B
theorem hi_self (a : Option Int) : hiO a a = a := by rcases hi_or a a with e | e <;> exact e
theorem lo_self (a : Option Int) : loO a a = a := by rcases lo_or a a with e | e <;> exact e
theorem hi_comm (a b : Option Int) : hiO a b = hiO b a := lec_anti (lec_hi (hi_lec2 a b) (hi_lec1 a b)) (lec_hi (hi_lec2 b a) (hi_lec1 b a))
theorem lo_comm (a b : Option Int) : loO a b = loO b a := lec_anti (lo_lec (lec_lo2 b a) (lec_lo1 b a)) (lo_lec (lec_lo2 a b) (lec_lo1 a b))
theorem has_iff {c : Option Int} {x : Int} : hasB c x = true ↔ lec (some x) c := by
  cases c with
  | none => exact ⟨(fun h => nomatch h), (fun h => False.elim h)⟩
  | some i =>
    constructor
    · intro h
      have h : i ≤ x := of_decide_eq_true h
      exact h
    · intro h
      have h : i ≤ x := h
      exact decide_eq_true h
theorem has_hi (c d : Option Int) (x : Int) : hasB (hiO c d) x = (hasB c x && hasB d x) := by
  rw [Bool.eq_iff_iff, Bool.and_eq_true, has_iff, has_iff, has_iff]
  exact ⟨fun h => ⟨lec_trans h (hi_lec1 c d), lec_trans h (hi_lec2 c d)⟩, fun h => lec_hi h.1 h.2⟩
theorem has_lo (c d : Option Int) (x : Int) : hasB (loO c d) x = (hasB c x || hasB d x) := by
  rw [Bool.eq_iff_iff, Bool.or_eq_true, has_iff, has_iff, has_iff]
  constructor
  · intro h
    rcases lo_or c d with e | e
    · rw [e] at h; exact .inl h
    · rw [e] at h; exact .inr h
  · rintro (h | h)
    · exact lec_trans h (lec_lo1 c d)
    · exact lec_trans h (lec_lo2 c d)
end Rt
namespace Rt
open PySem PySem.Spec PyProof.Rows L2
section
variable {P : Program} {w : World} {K : PySem.W.Frag} {mg : Str → Option Value} {base : Heap}
theorem ok_law {f : Addr} {fd : FuncData} (F : Fun K "law" "law" s_law f fd) (m_repr : mg "repr" = none) (m_range : mg "range" = none) (m_min : mg "min" = none)
    (C__law_pool : Cl P w K mg base 1 "_law_pool" ["_law_script"] (spDraws K)) (C__law_world : Cl P w K mg base 4 "_law_world" ["_law_pool_here", "_law_wide"] spWorld)
    (C__law_table : Cl P w K mg base 5 "_law_table" ["_law_pool_here", "_law_world_here", "_law_peaks"] spTable)
    (C__law_draw : Cl P w K mg base 1 "_law_draw" ["_law_pool_here", "_law_many"] spNext) (C__law_any : Cl P w K mg base 2 "_law_any" ["_law_pool_here", "_law_some"] (spOne K))
    (C__law_origin : Cl P w K mg base 3 "_law_origin" ["_law_pool_here", "_law_size", "_law_place", "_law_peaks"] spOrigin)
    (C__law_empty : Cl P w K mg base 1 "_law_empty" ["_law_world_here"] spEmpty) (C__law_mixed : Cl P w K mg base 1 "_law_mixed" ["_law_one", "_law_other", "_law_is_lesser"] spMixed)
    (C_both : Cl P w K mg base 5 "both" ["world", "one", "other"] (spBoth hiO)) (C_either : Cl P w K mg base 5 "either" ["world", "one", "other"] (spBoth loO)) (C_is_table : Cl P w K mg base 5 "is_table" ["world", "thing"] spIsTab)
    (C__law_has : Cl P w K mg base 2 "_law_has" ["_law_world_here", "_law_sheet", "_law_kind", "_law_origin_here", "_law_age"] spHas) (C_has : Cl P w K mg base 2 "has" ["world", "table", "kind", "origin", "age"] spHas)
    (C__law_same : ClG P w K mg base 1 "_law_same" ["_law_found", "_law_due"] (spSameD K)) :
    FnG P w K mg base 6 f fd ["_law_script"] (spLaw K) := by
  refine okG F sc_law (fun vs H Q E h => ?_) (fun cdv A outer s H vs Q E hr hg h => ?_)
  · obtain ⟨a, ns, rfl, _⟩ := h
    rfl
  · obtain ⟨a, ns, rfl, hS, hn, q⟩ := h
    refine ⟨_, (pss_cons (ps_set (i := 1) sc_law.nd rfl (.inl rfl) (pe_cl C__law_pool (hr.mono (by omega)) (by rfl) (pa_cons (pv 0) pa_nil)))
  (pss_cons (ps_for PassesOwn.never rfl (pi_range1 (by rfl) m_range (pa_cons pe_int pa_nil)) (pg_name (i := 2) sc_law.nd rfl (.inl rfl))
    (pss_cons (ps_set (i := 3) sc_law.nd rfl (.inr rfl) (pe_cl C__law_world (hr.mono (by omega)) (by rfl) (pa_cons (pv 1) (pa_cons pe_bl pa_nil))))
  (pss_cons (ps_set (i := 4) sc_law.nd rfl (.inl rfl) (pe_cl C__law_table (hr.mono (by omega)) (by rfl) (pa_cons (pv 1) (pa_cons (pv 3) (pa_cons pe_bl pa_nil)))))
  (pss_cons (ps_set (i := 5) sc_law.nd rfl (.inl rfl) (pe_cl C__law_any (hr.mono (by omega)) (by rfl) (pa_cons (pv 1) (pa_cons (pe_lstL (pa_cons (pe_cl C__law_table (hr.mono (by omega)) (by rfl) (pa_cons (pv 1) (pa_cons (pv 3) (pa_cons pe_bl pa_nil)))) (pa_cons (pe_cl C__law_table (hr.mono (by omega)) (by rfl) (pa_cons (pv 1) (pa_cons (pv 3) (pa_cons pe_bl pa_nil)))) (pa_cons (pe_cl C__law_empty (hr.mono (by omega)) (by rfl) (pa_cons (pv 3) pa_nil)) pa_nil)))) pa_nil))))
  (pss_cons (ps_set (i := 6) sc_law.nd rfl (.inl rfl) (pe_callB (call_repr hg hr.units) (by rfl) m_repr (by decide +kernel) (pa_cons (pe_lstL (pa_cons (pv 3) (pa_cons (pv 4) (pa_cons (pv 5) pa_nil)))) pa_nil)))
  (pss_cons (ps_par (i := 7) (j := 8) (by rfl) sc_law.nd rfl rfl (by decide) rfl rfl (pa_cons (pe_cl C_both (hr.mono (by omega)) (by rfl) (pa_cons (pv 3) (pa_cons (pv 4) (pa_cons (pv 5) pa_nil)))) (pa_cons (pe_cl C_either (hr.mono (by omega)) (by rfl) (pa_cons (pv 3) (pa_cons (pv 4) (pa_cons (pv 5) pa_nil)))) pa_nil)) (by rfl))
  (pss_cons (ps_if (pt_not (pt_val (pe_clG C__law_same (hr.mono (by omega)) hg (by rfl) (pa_cons (pe_lstL (pa_cons (pv 7) (pa_cons (pv 8) pa_nil))) (pa_cons (pe_lstL (pa_cons (pe_cl C__law_mixed (hr.mono (by omega)) (by rfl) (pa_cons (pv 4) (pa_cons (pv 5) (pa_cons pe_bl pa_nil)))) (pa_cons (pe_cl C__law_mixed (hr.mono (by omega)) (by rfl) (pa_cons (pv 4) (pa_cons (pv 5) (pa_cons pe_bl pa_nil)))) pa_nil))) pa_nil)))))
    (pss_one (ps_ret pe_bl))
    pss_nil)
  (pss_cons (ps_if (pt_not (pt_val (pe_clG C__law_same (hr.mono (by omega)) hg (by rfl) (pa_cons (pe_lstL (pa_cons (pe_cl C_both (hr.mono (by omega)) (by rfl) (pa_cons (pv 3) (pa_cons (pv 5) (pa_cons (pv 4) pa_nil)))) (pa_cons (pe_cl C_either (hr.mono (by omega)) (by rfl) (pa_cons (pv 3) (pa_cons (pv 5) (pa_cons (pv 4) pa_nil)))) pa_nil))) (pa_cons (pe_lstL (pa_cons (pv 7) (pa_cons (pv 8) pa_nil))) pa_nil)))))
    (pss_one (ps_ret pe_bl))
    pss_nil)
  (pss_cons (ps_if (pt_not (pt_val (pe_clG C__law_same (hr.mono (by omega)) hg (by rfl) (pa_cons (pe_lstL (pa_cons (pe_cl C_both (hr.mono (by omega)) (by rfl) (pa_cons (pv 3) (pa_cons (pv 4) (pa_cons (pv 4) pa_nil)))) (pa_cons (pe_cl C_either (hr.mono (by omega)) (by rfl) (pa_cons (pv 3) (pa_cons (pv 4) (pa_cons (pv 4) pa_nil)))) pa_nil))) (pa_cons (pe_lstL (pa_cons (pv 4) (pa_cons (pv 4) pa_nil))) pa_nil)))))
    (pss_one (ps_ret pe_bl))
    pss_nil)
  (pss_cons (ps_if (pt_not (pt_val (pe_clG C__law_same (hr.mono (by omega)) hg (by rfl) (pa_cons (pe_lstL (pa_cons (pe_cl C_is_table (hr.mono (by omega)) (by rfl) (pa_cons (pv 3) (pa_cons (pv 7) pa_nil))) (pa_cons (pe_cl C_is_table (hr.mono (by omega)) (by rfl) (pa_cons (pv 3) (pa_cons (pv 8) pa_nil))) pa_nil))) (pa_cons (pe_lstL (pa_cons pe_bl (pa_cons pe_bl pa_nil))) pa_nil)))))
    (pss_one (ps_ret pe_bl))
    pss_nil)
  (pss_cons (ps_for PassesOwn.never rfl (pi_range1 (by rfl) m_range (pa_cons pe_int pa_nil)) (pg_name (i := 9) sc_law.nd rfl (.inl rfl))
    (pss_cons (ps_asg (pe_tupL (pa_cons (pe_cl C__law_any (hr.mono (by omega)) (by rfl) (pa_cons (pv 1) (pa_cons (pe_ix ix_tup (pv 3) pe_int (fun _ _ => rfl)) pa_nil))) (pa_cons (pe_cl C__law_draw (hr.mono (by omega)) (by rfl) (pa_cons (pv 1) (pa_cons pe_int pa_nil))) pa_nil))) (pg_tup (by rfl) (pgs_cons (pg_name (i := 10) sc_law.nd rfl (.inr rfl)) (pgs_cons (pg_name (i := 11) sc_law.nd rfl (.inr rfl)) pgs_nil))))
  (pss_cons (ps_set (i := 12) sc_law.nd rfl (.inr rfl) (pe_callB (call_min2 rfl) (by rfl) m_min (by decide +kernel) (pa_cons (pe_op op_powL pe_int pe_int) (pa_cons (pe_cl C__law_origin (hr.mono (by omega)) (by rfl) (pa_cons (pv 1) (pa_cons (pe_ix ix_tup (pv 3) pe_int (fun _ _ => rfl)) (pa_cons (pe_cl C__law_draw (hr.mono (by omega)) (by rfl) (pa_cons (pv 1) (pa_cons (pe_ix ix_tup (pv 3) pe_int (fun _ _ => rfl)) pa_nil))) (pa_cons pe_bl pa_nil))))) pa_nil))))
  (pss_cons (ps_setLc (i := 13) (own := [("_law_sheet", 15)]) (g := (gName 15)) (tt := tYes) rfl sc_law.nd rfl rfl (sw_true rfl rfl rfl (by decide +kernel)) (pi_tup (pe_tupL (pa_cons (pv 4) (pa_cons (pv 5) pa_nil)))) (blkOk_by (own := [("_law_sheet", 15)]) (N := ["_law_script", "_law_pool_here", "_law_turn", "_law_world_here", "_law_one", "_law_other", "_law_ahead", "_law_less", "_law_more", "_law_k", "_law_kind", "_law_age", "_law_origin_here", "_law_had", "_law_due", "_law_sheet"]) (sc := defScope s_law) (by decide +kernel)) (fun _ _ _ _ _ => (pg_name (i := 15) sc_law.nd rfl (.inl rfl))) (fun _ _ _ _ _ => pts_nil) (fun _ _ _ _ _ => (pe_cl C__law_has (hr.mono (by omega)) (by rfl) (pa_cons (pv 3) (pa_cons (pv 15) (pa_cons (pv 10) (pa_cons (pv 12) (pa_cons (pv 11) pa_nil))))))))
  (pss_cons (ps_set (i := 14) sc_law.nd rfl (.inl rfl) (pe_lstL (pa_cons (pe_and (pe_ix ix_list (pv 13) pe_int (fun _ _ => rfl)) (pe_one (pe_ix ix_list (pv 13) pe_int (fun _ _ => rfl)))) (pa_cons (pe_or (pe_ix ix_list (pv 13) pe_int (fun _ _ => rfl)) (pe_one (pe_ix ix_list (pv 13) pe_int (fun _ _ => rfl)))) pa_nil))))
  (pss_one (ps_if (pt_not (pt_val (pe_clG C__law_same (hr.mono (by omega)) hg (by rfl) (pa_cons (pe_lstL (pa_cons (pe_cl C_has (hr.mono (by omega)) (by rfl) (pa_cons (pv 3) (pa_cons (pv 7) (pa_cons (pv 10) (pa_cons (pv 12) (pa_cons (pv 11) pa_nil)))))) (pa_cons (pe_cl C_has (hr.mono (by omega)) (by rfl) (pa_cons (pv 3) (pa_cons (pv 8) (pa_cons (pv 10) (pa_cons (pv 12) (pa_cons (pv 11) pa_nil)))))) pa_nil))) (pa_cons (pv 14) pa_nil)))))
    (pss_one (ps_ret pe_bl))
    pss_nil)))))))
  (pss_one (ps_if (pt_cmpR op_ne (pe_callB (call_repr hg hr.units) (by rfl) m_repr (by decide +kernel) (pa_cons (pe_lstL (pa_cons (pv 3) (pa_cons (pv 4) (pa_cons (pv 5) pa_nil)))) pa_nil)) (pv 6) (nomark _))
    (pss_one (ps_ret pe_bl))
    pss_nil)))))))))))))
  (pss_one (ps_ret pe_bl)))), ?_⟩
    refine ⟨.ref a, rfl, a, ns, rfl, hS, hn, fun g H1 _ F1 => ?_⟩
    refine ⟨3, rfl, by decide, by decide, ?_⟩
    refine for_range (n := (3 : Int).toNat) (fun i σ H' => i ≤ 3 ∧ (∃ B' : Nat, B' + i * 2000 = 1000000 ∧ Fu g B' H') ∧ ∃ y2 y3 y4 y5 y6 y7 y8 y9 y10 y11 y12 y13 y14 y15, σ = [some (.ref a), some (.ref g.d), y2, y3, y4, y5, y6, y7, y8, y9, y10, y11, y12, y13, y14, y15])
      ⟨by omega, ⟨1000000, by omega, F1⟩, _, _, _, _, _, _, _, _, _, _, _, _, _, _, rfl⟩ (fun i σ Ha hi h => ?_) (fun σ Ha h => ?_)
    · obtain ⟨_, ⟨Ba, eBa, Fa⟩, y2, y3, y4, y5, y6, y7, y8, y9, y10, y11, y12, y13, y14, y15, rfl⟩ := h
      have hi : i < 3 := hi
      have hBa : 2000 ≤ Ba := by omega
      refine ⟨.ref g.d, rfl, g, _, rfl, Fa, by omega, fun p n pk ok ks ps pw H2 W F2 K2 => ?_⟩
      have n1 := W.n1
      have n6 := W.n6
      have k1 := W.k1
      have k4 := W.k4
      refine ⟨.ref g.d, rfl, .ref p, rfl, g, _, p, n, pk, ok, ks, ps, pw, rfl, F2, by omega, W, fun v1 H3 it1 F3 K3 => ?_⟩
      have W3 := W.keep F2 K3
      -- other
      refine ⟨.ref g.d, rfl, .ref g.d, rfl, .ref p, rfl, g, _, p, n, pk, ok, ks, ps, pw, rfl, F3, by omega, W3, fun va H4 ia F4 K4 => ?_⟩
      have W4 := W3.keep F3 K4
      refine ⟨.ref g.d, rfl, .ref p, rfl, g, _, p, n, pk, ok, ks, ps, pw, rfl, F4, by omega, W4, fun vb H5 ib F5 K5 => ?_⟩
      have W5 := W4.keep F4 K5
      refine ⟨.ref p, rfl, p, n, pk, ok, ks, ps, pw, rfl, W5, fun ve H6 s6 tE => ⟨sz (n := 3) (by decide), fun pl H7 npl eH7 => ?_⟩⟩
      have s7 : Same H6 H7 := by rw [eH7]; exact sm_new npl
      have F7 := (F5.same s6).same s7
      have K57 : Kp g H5 H7 := fun b ob _ _ z => (s6.trans s7) b ob z
      refine ⟨g, _, .ref pl, rfl, F7, by omega, .inl ⟨pl, _, rfl, (F5.same s6).off npl, at_new eH7, (show 0 < 3 by decide), (show 3 ≤ 1000 by decide), fun vo H8 vm F8 K8 => ?_⟩⟩
      have K58 := K57.trans K8
      have K38 : Kp g H3 H8 := (K4.trans K5).trans K58
      have W8 := W5.keep F5 K58
      obtain ⟨MA, tA3, dA, fA⟩ := it1.mtF
      have tA := tA3.mono (F3.tk K38)
      obtain ⟨MB, tB, dB, fB⟩ : ∃ MB, Tbe H8 vo MB ∧ Dim n ks.length MB ∧ FallM MB := by
        simp only [List.mem_cons, List.not_mem_nil, or_false] at vm
        rcases vm with rfl | rfl | rfl
        · obtain ⟨T, a1, a2, a3⟩ := ia.mtF
          exact ⟨T, a1.mono (F4.tk (K5.trans K58)), a2, a3⟩
        · obtain ⟨T, a1, a2, a3⟩ := ib.mtF
          exact ⟨T, a1.mono (F5.tk K58), a2, a3⟩
        · exact ⟨_, tE.mono ((same_tk s7).trans (F7.tk K8)), emptyM_dim _ _, emptyM_fall _ _⟩
      obtain ⟨dW, lW, pW⟩ := W8.dp (K := K)
      have lA := dA.lim n6 k4
      have lB := dB.lim n6 k4
      have lim : Lim 6 300000 (.list [dW, mD MA, mD MB]) := by
        refine (lim_lst (k := 5) (n := 90000) (m := 3) (fun d hd => ?_) (Nat.le_refl _)).up (by decide) (by decide)
        simp only [List.mem_cons, List.not_mem_nil, or_false] at hd
        rcases hd with rfl | rfl | rfl
        · exact lW
        · exact lA.up (by decide) (by decide)
        · exact lB.up (by decide) (by decide)
      have shows : ∀ {H' : Hp} {pl : Addr}, Kp g H8 H' → H' pl = some (.lst [.ref p, v1, vo]) → Dp K H' (.ref pl) (.list [dW, mD MA, mD MB]) := fun {H' pl} k hl =>
        .lst (SqL.of hl) (.cons (pW F8 k) (.cons (tA.mono (F8.tk k)).td.dp (.cons (tB.mono (F8.tk k)).td.dp .nil)))
      -- ahead
      refine ⟨.ref p, rfl, v1, rfl, vo, rfl, sz (n := 3) (by decide), fun pl2 H9 npl2 eH9 => ?_⟩
      have s9 : Same H8 H9 := by rw [eH9]; exact sm_new npl2
      have kp : ∀ {Hx Hy : Hp}, Same Hx Hy → Kp g Hx Hy := fun {Hx Hy} s b ob _ _ z => s b ob z
      refine ⟨pl2, _, rfl, shows (kp s9) (at_new eH9), lim.s, lim.h, Nat.le_trans lim.d (by decide), szB (Nat.le_trans lim.l (by decide)), fun za eza => ?_⟩
      -- less, more
      refine ⟨.ref p, rfl, v1, rfl, vo, rfl, .ref p, v1, vo, MA, MB, n, ks.length, rfl, tA.mono (same_tk s9), tB.mono (same_tk s9), dA, dB, by omega, by omega, fun vl H10 s10 tL0 => ?_⟩
      have s910 := s9.trans s10
      refine ⟨.ref p, rfl, v1, rfl, vo, rfl, .ref p, v1, vo, MA, MB, n, ks.length, rfl, tA.mono (same_tk s910), tB.mono (same_tk s910), dA, dB, by omega, by omega, fun vm' H11 s11 tM => ⟨_, _, rfl, ?_⟩⟩
      have s811 := s910.trans s11
      have tL := tL0.mono (same_tk s11)
      have tA := tA.mono (same_tk s811)
      have tB := tB.mono (same_tk s811)
      have dL := dA.zip hi_or dB
      have dM := dA.zip lo_or dB
      have fL := FallM.zip hi_falls fA fB dA dB
      have fM := FallM.zip lo_falls fA fB dA dB
      have W11 := W8.same s811
      have lim2 : ∀ {X Y : Mt}, Dim n ks.length X → Dim n ks.length Y → Lim 60 10000000 (.list [mD X, mD Y]) := fun {X Y} dx dy => by
        refine (lim_lst (k := 3) (n := 13751) (m := 2) (fun d hd => ?_) (Nat.le_refl _)).up (by decide) (by decide)
        simp only [List.mem_cons, List.not_mem_nil, or_false] at hd
        rcases hd with rfl | rfl
        · exact dx.lim n6 k4
        · exact dy.lim n6 k4
      have dp2 : ∀ {H' : Hp} {l : Addr} {x y : V} {X Y : Mt}, H' l = some (.lst [x, y]) → Tbe H' x X → Tbe H' y Y → Dp K H' (.ref l) (.list [mD X, mD Y]) := fun {H' l x y X Y} hl hx hy => .lst (SqL.of hl) (.cons hx.td.dp (.cons hy.td.dp .nil))
      dsimp only [gName, tSeq, tNext]
      refine ifFS (fun Q1 q1 => ?_) (fun H12 s12 => ?_)
      · refine ⟨vl, rfl, vm', rfl, sz (n := 2) (by decide), fun pa Hb npa eHb => ?_⟩
        have sb : Same H11 Hb := by rw [eHb]; exact sm_new npa
        refine ⟨v1, rfl, vo, rfl, v1, vo, false, MA, MB, n, ks.length, rfl, tA.mono (same_tk sb), tB.mono (same_tk sb), dA, dB, by omega, by omega, fun z1 Hc sc t1 => ?_⟩
        have sbc := sb.trans sc
        refine ⟨v1, rfl, vo, rfl, v1, vo, true, MA, MB, n, ks.length, rfl, tA.mono (same_tk sbc), tB.mono (same_tk sbc), dA, dB, by omega, by omega, fun z2 Hd sd t2 => ⟨sz (n := 2) (by decide), fun pb He npb eHe => ?_⟩⟩
        have se : Same Hd He := by rw [eHe]; exact sm_new npb
        have sf := (sbc.trans sd).trans se
        have t1 : Tbe Hc z1 (zipM hiO MA MB) := t1
        have t2 : Tbe Hd z2 (zipM loO MA MB) := t2
        exact ⟨pa, pb, _, rfl, dp2 (((sc.trans sd).trans se) _ _ (at_new eHb)) (tL.mono (same_tk sf)) (tM.mono (same_tk sf)), dp2 (at_new eHe) (t1.mono (same_tk (sd.trans se))) (t2.mono (same_tk se)), lim2 dL dM, _, rfl, q1 _ sf⟩
      have W12 := W11.same s12
      have tA := tA.mono (same_tk s12)
      have tB := tB.mono (same_tk s12)
      have tL := tL.mono (same_tk s12)
      have tM := tM.mono (same_tk s12)
      dsimp only [tSeq, tNext]
      refine ifFS (fun Q1 q1 => ?_) (fun H13 s13 => ?_)
      · refine ⟨.ref p, rfl, vo, rfl, v1, rfl, .ref p, vo, v1, MB, MA, n, ks.length, rfl, tB, tA, dB, dA, by omega, by omega, fun z1 Hb sb t1 => ?_⟩
        refine ⟨.ref p, rfl, vo, rfl, v1, rfl, .ref p, vo, v1, MB, MA, n, ks.length, rfl, tB.mono (same_tk sb), tA.mono (same_tk sb), dB, dA, by omega, by omega, fun z2 Hc sc t2 => ⟨sz (n := 2) (by decide), fun pa Hd npa eHd => ?_⟩⟩
        have sd : Same Hc Hd := by rw [eHd]; exact sm_new npa
        refine ⟨vl, rfl, vm', rfl, sz (n := 2) (by decide), fun pb He npb eHe => ?_⟩
        have se : Same Hd He := by rw [eHe]; exact sm_new npb
        have sf := ((sb.trans sc).trans sd).trans se
        rw [zipM_comm hi_comm] at t1
        rw [zipM_comm lo_comm] at t2
        exact ⟨pa, pb, _, rfl, dp2 (se _ _ (at_new eHd)) (t1.mono (same_tk ((sc.trans sd).trans se))) (t2.mono (same_tk (sd.trans se))), dp2 (at_new eHe) (tL.mono (same_tk sf)) (tM.mono (same_tk sf)), lim2 dL dM, _, rfl, q1 _ sf⟩
      have W13 := W12.same s13
      have tA := tA.mono (same_tk s13)
      have tB := tB.mono (same_tk s13)
      have tL := tL.mono (same_tk s13)
      have tM := tM.mono (same_tk s13)
      dsimp only [tSeq, tNext]
      refine ifFS (fun Q1 q1 => ?_) (fun H14 s14 => ?_)
      · refine ⟨.ref p, rfl, v1, rfl, v1, rfl, .ref p, v1, v1, MA, MA, n, ks.length, rfl, tA, tA, dA, dA, by omega, by omega, fun z1 Hb sb t1 => ?_⟩
        refine ⟨.ref p, rfl, v1, rfl, v1, rfl, .ref p, v1, v1, MA, MA, n, ks.length, rfl, tA.mono (same_tk sb), tA.mono (same_tk sb), dA, dA, by omega, by omega, fun z2 Hc sc t2 => ⟨sz (n := 2) (by decide), fun pa Hd npa eHd => ?_⟩⟩
        have sd : Same Hc Hd := by rw [eHd]; exact sm_new npa
        refine ⟨v1, rfl, v1, rfl, sz (n := 2) (by decide), fun pb He npb eHe => ?_⟩
        have se : Same Hd He := by rw [eHe]; exact sm_new npb
        have sf := ((sb.trans sc).trans sd).trans se
        rw [zipM_self hi_self] at t1
        rw [zipM_self lo_self] at t2
        exact ⟨pa, pb, _, rfl, dp2 (se _ _ (at_new eHd)) (t1.mono (same_tk ((sc.trans sd).trans se))) (t2.mono (same_tk (sd.trans se))), dp2 (at_new eHe) (tA.mono (same_tk sf)) (tA.mono (same_tk sf)), lim2 dA dA, _, rfl, q1 _ sf⟩
      have W14 := W13.same s14
      have tA := tA.mono (same_tk s14)
      have tB := tB.mono (same_tk s14)
      have tL := tL.mono (same_tk s14)
      have tM := tM.mono (same_tk s14)
      have dpB : ∀ {H' : Hp} {l : Addr} {x y : Bool}, H' l = some (.lst [.bl x, .bl y]) → Dp K H' (.ref l) (.list ([x, y].map PyData.bool)) := fun {H' l x y} hl => .lst (SqL.of hl) (dp_bools [x, y])
      have limB : ∀ x y : Bool, Lim 60 10000000 (.list ([x, y].map PyData.bool)) := fun x y => (lim_bools (bs := [x, y]) (by show 2 ≤ 6; decide)).up (by decide) (by decide)
      dsimp only [tSeq, tNext]
      refine ifFS (fun Q1 q1 => ?_) (fun H15 s15 => ?_)
      · refine ⟨.ref p, rfl, vl, rfl, p, n, pk, ok, ks, ps, pw, vl, _, rfl, W14, tL, dL, fL, fun Hb sb => ?_⟩
        refine ⟨.ref p, rfl, vm', rfl, p, n, pk, ok, ks, ps, pw, vm', _, rfl, W14.same sb, tM.mono (same_tk sb), dM, fM, fun Hc sc => ⟨sz (n := 2) (by decide), fun pa Hd npa eHd => ?_⟩⟩
        have sd : Same Hc Hd := by rw [eHd]; exact sm_new npa
        refine ⟨sz (n := 2) (by decide), fun pb He npb eHe => ?_⟩
        have se : Same Hd He := by rw [eHe]; exact sm_new npb
        exact ⟨pa, pb, _, rfl, dpB (se _ _ (at_new eHd)), dpB (at_new eHe), limB _ _, _, rfl, q1 _ (((sb.trans sc).trans sd).trans se)⟩
      have s815 := (((s811.trans s12).trans s13).trans s14).trans s15
      have F15 := F8.same s815
      have W15 := W14.same s15
      have tA := tA.mono (same_tk s15)
      have tB := tB.mono (same_tk s15)
      have tL := tL.mono (same_tk s15)
      have tM := tM.mono (same_tk s15)
      obtain ⟨t1, rfl⟩ : ∃ t, v1 = .ref t := by obtain ⟨t, _, e, _⟩ := tA; exact ⟨t, e⟩
      obtain ⟨t2, rfl⟩ : ∃ t, vo = .ref t := by obtain ⟨t, _, e, _⟩ := tB; exact ⟨t, e⟩
      obtain ⟨t3, rfl⟩ : ∃ t, vl = .ref t := by obtain ⟨t, _, e, _⟩ := tL; exact ⟨t, e⟩
      obtain ⟨t4, rfl⟩ : ∃ t, vm' = .ref t := by obtain ⟨t, _, e, _⟩ := tM; exact ⟨t, e⟩
      -- the turns
      refine ⟨20, rfl, by decide, by decide, ?_⟩
      refine for_range (n := (20 : Int).toNat) (fun k σ H' => k ≤ 20 ∧ (∃ B' : Nat, B' + k * 6 + 1197 = Ba ∧ Fu g B' H') ∧ Kp g H15 H' ∧ ∃ y9 y10 y11 y12 y13 y14 y15, σ = [some (.ref a), some (.ref g.d), some (.int ((0 : Int) + (i : Int))), some (.ref p), some (.ref t1), some (.ref t2), some (.str za), some (.ref t3), some (.ref t4), y9, y10, y11, y12, y13, y14, y15])
        ⟨by omega, ⟨Ba - 1197, by omega, F15.mono (by omega)⟩, Kp.refl _ _, _, _, _, _, _, _, _, rfl⟩ (fun k σ Hk hk h => ?_) (fun σ Hk h => ?_)
      · obtain ⟨_, ⟨B', eB, Fk⟩, Kk, y9, y10, y11, y12, y13, y14, y15, rfl⟩ := h
        have hk : k < 20 := hk
        have hB' : 6 ≤ B' := by omega
        have Wk := W15.keep F15 Kk
        refine ⟨.ref g.d, rfl, .ref p, rfl, p, _, 1, _, rfl, rfl, SqT.of Wk.hp, rfl, g, _, .ref pk, rfl, Fk, by omega, .inr (.inr ⟨pk, ok, _, rfl, Wk.hk, by rw [List.length_map]; omega, by rw [List.length_map]; omega, fun vk G1 vkm FG1 KG1 => ?_⟩)⟩
        obtain ⟨kd, km, rfl⟩ := List.mem_map.mp vkm
        obtain ⟨j, _, hj, hno⟩ := first_at km
        refine ⟨.ref g.d, rfl, g, _, 30, rfl, FG1, by omega, by decide, by decide, fun ag G2 ag0 ag1 FG2 KG2 => ⟨sz (n := 2) (by decide), fun pq G3 npq eG3 => ?_⟩⟩
        have FG3 : Fu g _ G3 := eG3 ▸ FG2.new npq
        have KG3 : Kp g G2 G3 := by rw [eG3]; exact Kp.new npq
        refine ⟨pq, _, rfl, SqT.of (at_new eG3), rfl, _, _, rfl, _, _, rfl, rfl, ?_⟩
        have W3' := ((Wk.keep Fk KG1).keep FG1 KG2).keep FG2 KG3
        refine ⟨10, 15, rfl, rfl, by decide, by decide, by decide, fun w1 ew1 => ?_⟩
        refine ⟨.ref g.d, rfl, .ref p, rfl, p, _, 0, _, rfl, rfl, SqT.of W3'.hp, rfl, .ref g.d, rfl, .ref p, rfl, p, _, 0, _, rfl, rfl, SqT.of W3'.hp, rfl, g, _, n, rfl, FG3, by omega, by omega, by omega, fun pl G4 pl0 pl1 FG4 KG4 => ⟨g, _, n, pl, rfl, FG4, by omega, n1, n6, pl0, pl1, fun o G5 o1 o2 o3 FG5 KG5 => ⟨w1, o, rfl, ?_⟩⟩⟩
        generalize (if o < w1 then o else w1) = x
        have K15 : Kp g H15 G5 := ((((Kk.trans KG1).trans KG2).trans KG3).trans KG4).trans KG5
        have Wz := W15.keep F15 K15
        have T15 := F15.tk K15
        have tA := tA.mono T15
        have tB := tB.mono T15
        have tL := tL.mono T15
        have tM := tM.mono T15
        have m0 : 0 ≤ x % n := Int.emod_nonneg _ (by omega)
        have m1 : x % n < n := Int.emod_lt_of_pos _ (by omega)
        have hjl : j < MA.length := by rw [dA.rows]; exact (List.getElem?_eq_some_iff.mp hj).1
        obtain ⟨ra, hra⟩ : ∃ r, MA[j]? = some r := ⟨_, List.getElem?_eq_getElem hjl⟩
        have hml : (x % n).toNat < ra.length := by rw [dA.cols _ _ hra]; omega
        obtain ⟨ca, hca⟩ : ∃ c, ra[(x % n).toNat]? = some c := ⟨_, List.getElem?_eq_getElem hml⟩
        have hal : min ag.toNat 26 < ca.length := by rw [dA.len _ _ _ _ hra hca]; omega
        obtain ⟨c1, hc1⟩ : ∃ c, ca[min ag.toNat 26]? = some c := ⟨_, List.getElem?_eq_getElem hal⟩
        obtain ⟨rb, cb, c2, hrb, hcb, hc2⟩ := dA.beside dB hra hca hc1
        have cellZ : ∀ f : Option Int → Option Int → Option Int, (zipM f MA MB)[j]? = some (List.zipWith (List.zipWith f) ra rb) ∧ (List.zipWith (List.zipWith f) ra rb)[(x % n).toNat]? = some (List.zipWith f ca cb) ∧ (List.zipWith f ca cb)[min ag.toNat 26]? = some (f c1 c2) := fun f => ⟨zip_at.mpr ⟨ra, rb, hra, hrb, rfl⟩, zip_at.mpr ⟨ca, cb, hca, hcb, rfl⟩, zip_at.mpr ⟨c1, c2, hc1, hc2, rfl⟩⟩
        have cell1 := tA.cell hra hca hc1
        have cell2 := tB.cell hrb hcb hc2
        have cell3 := tL.cell (cellZ hiO).1 (cellZ hiO).2.1 (cellZ hiO).2.2
        have cell4 := tM.cell (cellZ loO).1 (cellZ loO).2.1 (cellZ loO).2.2
        obtain ⟨b1, eb1⟩ : ∃ b, b = hasB c1 x := ⟨_, rfl⟩
        obtain ⟨b2, eb2⟩ : ∃ b, b = hasB c2 x := ⟨_, rfl⟩
        -- had
        refine ⟨.ref t1, rfl, .ref t2, rfl, sz (n := 2) (by decide), fun pp G6 npp eG6 => ⟨pp, rfl, ⟨_, SqT.of (at_new eG6)⟩, fun D nD => ?_⟩⟩
        have s6' : Same G5 G6 := by rw [eG6]; exact sm_new npp
        refine lc_tup (xs := [.ref t1, .ref t2]) (Pv := fun i H' => Same G6 H' ∧ (i = 0 → H' D = some (.lst [])) ∧ (i = 1 → H' D = some (.lst [.bl b1])) ∧ (i = 2 → H' D = some (.lst [.bl b1, .bl b2]))) ⟨sm_new nD, fun _ => upd_same, (fun z => nomatch z), (fun z => nomatch z)⟩ (fun i H' _ p => SqT.of (p.1 _ _ (at_new eG6))) (fun i v H' hi p => ?_) (fun G7 pz => ?_)
        · obtain ⟨s', p0, p1, p2⟩ := p
          have sx := s6'.trans s'
          match i, hi with
          | 0, hi =>
            cases hi
            refine ⟨rfl, .ref p, rfl, .ref t1, rfl, .str kd, rfl, .int x, rfl, .int ag, rfl, p, n, pk, ok, ks, ps, pw, t1, kd, x, ag, j, c1, rfl, Wz.same sx, ag0, hj, hno, cell1.mono (same_tk sx), fun b eb => ?_⟩
            obtain rfl : b = b1 := by rw [eb, eb1]
            exact ⟨[], p0 rfl, szl (by decide), sm_mut s' nD, (fun z => nomatch z), (fun _ => upd_same), (fun z => nomatch z)⟩
          | 1, hi =>
            cases hi
            refine ⟨rfl, .ref p, rfl, .ref t2, rfl, .str kd, rfl, .int x, rfl, .int ag, rfl, p, n, pk, ok, ks, ps, pw, t2, kd, x, ag, j, c2, rfl, Wz.same sx, ag0, hj, hno, cell2.mono (same_tk sx), fun b eb => ?_⟩
            obtain rfl : b = b2 := by rw [eb, eb2]
            exact ⟨_, p1 rfl, szl (by show 1 < 100000; decide), sm_mut s' nD, (fun z => nomatch z), (fun z => nomatch z), (fun _ => upd_same)⟩
        obtain ⟨s7', _, _, p2⟩ := pz
        have hD := p2 rfl
        have s57 := s6'.trans s7'
        cases b1 with
        | true =>
          refine ⟨.ref D, rfl, D, _, 0, _, rfl, rfl, SqL.of hD, rfl, _, rfl, .ref D, rfl, D, _, 1, _, rfl, rfl, SqL.of hD, rfl, .ref D, rfl, D, _, 0, _, rfl, rfl, SqL.of hD, rfl, _, rfl, sz (n := 2) (by decide), fun pd G8 npd eG8 => ?_⟩
          have s8' : Same G7 G8 := by rw [eG8]; exact sm_new npd
          have s58 := s57.trans s8'
          dsimp only [tSeq, tNext]
          refine ifFS (fun Q1 q1 => ?_) (fun G9 s9' => ?_)
          · refine ⟨.ref p, rfl, .ref t3, rfl, .str kd, rfl, .int x, rfl, .int ag, rfl, p, n, pk, ok, ks, ps, pw, t3, kd, x, ag, j, _, rfl, Wz.same s58, ag0, hj, hno, cell3.mono (same_tk s58), fun b3 eb3 => ?_⟩
            refine ⟨.ref p, rfl, .ref t4, rfl, .str kd, rfl, .int x, rfl, .int ag, rfl, p, n, pk, ok, ks, ps, pw, t4, kd, x, ag, j, _, rfl, Wz.same s58, ag0, hj, hno, cell4.mono (same_tk s58), fun b4 eb4 => ⟨sz (n := 2) (by decide), fun pa G10 npa eG10 => ?_⟩⟩
            have s10' : Same G8 G10 := by rw [eG10]; exact sm_new npa
            rw [has_hi, ← eb1, ← eb2] at eb3
            rw [has_lo, ← eb1, ← eb2] at eb4
            have hpd : G8 pd = some (.lst [.bl b3, .bl b4]) := by
              rw [eb3, eb4]
              exact at_new eG8
            exact ⟨.ref pd, rfl, pa, pd, _, rfl, dpB (at_new eG10), dpB (s10' _ _ hpd), limB _ _, _, rfl, q1 _ s10'⟩
          exact ⟨by omega, ⟨B' - 6, by omega, (FG5.same (s58.trans s9')).mono (by omega)⟩, K15.trans (kp (s58.trans s9')), _, _, _, _, _, _, _, rfl⟩
        | false =>
          refine ⟨.ref D, rfl, D, _, 0, _, rfl, rfl, SqL.of hD, rfl, _, rfl, .ref D, rfl, D, _, 0, _, rfl, rfl, SqL.of hD, rfl, _, rfl, .ref D, rfl, D, _, 1, _, rfl, rfl, SqL.of hD, rfl, sz (n := 2) (by decide), fun pd G8 npd eG8 => ?_⟩
          have s8' : Same G7 G8 := by rw [eG8]; exact sm_new npd
          have s58 := s57.trans s8'
          dsimp only [tSeq, tNext]
          refine ifFS (fun Q1 q1 => ?_) (fun G9 s9' => ?_)
          · refine ⟨.ref p, rfl, .ref t3, rfl, .str kd, rfl, .int x, rfl, .int ag, rfl, p, n, pk, ok, ks, ps, pw, t3, kd, x, ag, j, _, rfl, Wz.same s58, ag0, hj, hno, cell3.mono (same_tk s58), fun b3 eb3 => ?_⟩
            refine ⟨.ref p, rfl, .ref t4, rfl, .str kd, rfl, .int x, rfl, .int ag, rfl, p, n, pk, ok, ks, ps, pw, t4, kd, x, ag, j, _, rfl, Wz.same s58, ag0, hj, hno, cell4.mono (same_tk s58), fun b4 eb4 => ⟨sz (n := 2) (by decide), fun pa G10 npa eG10 => ?_⟩⟩
            have s10' : Same G8 G10 := by rw [eG10]; exact sm_new npa
            rw [has_hi, ← eb1, ← eb2] at eb3
            rw [has_lo, ← eb1, ← eb2] at eb4
            have hpd : G8 pd = some (.lst [.bl b3, .bl b4]) := by
              rw [eb3, eb4]
              exact at_new eG8
            exact ⟨.ref pd, rfl, pa, pd, _, rfl, dpB (at_new eG10), dpB (s10' _ _ hpd), limB _ _, _, rfl, q1 _ s10'⟩
          exact ⟨by omega, ⟨B' - 6, by omega, (FG5.same (s58.trans s9')).mono (by omega)⟩, K15.trans (kp (s58.trans s9')), _, _, _, _, _, _, _, rfl⟩
      · obtain ⟨_, ⟨B', eB, Fk⟩, Kk, y9, y10, y11, y12, y13, y14, y15, rfl⟩ := h
        dsimp only [tSeq, tNext]
        refine ifFS (fun Q1 q1 => ?_) (fun G1 sg => ?_)
        · refine ⟨.ref p, rfl, .ref t1, rfl, .ref t2, rfl, sz (n := 3) (by decide), fun pl3 G1 npl3 eG1 => ?_⟩
          have sg : Same Hk G1 := by rw [eG1]; exact sm_new npl3
          refine ⟨pl3, _, rfl, shows (((kp s815).trans Kk).trans (kp sg)) (at_new eG1), lim.s, lim.h, Nat.le_trans lim.d (by decide), szB (Nat.le_trans lim.l (by decide)), fun zb ezb => ⟨.str za, rfl, rfl, ?_⟩⟩
          rw [eza, ezb, decide_eq_true rfl]
          exact ⟨_, rfl, q1 _ sg⟩
        exact ⟨by omega, ⟨Ba - 2000, by omega, (Fk.same sg).mono (by omega)⟩, _, _, _, _, _, _, _, _, _, _, _, _, _, _, rfl⟩
    · obtain ⟨_, _, y2, y3, y4, y5, y6, y7, y8, y9, y10, y11, y12, y13, y14, y15, rfl⟩ := h
      exact q _
end
end Rt
namespace Rt
open PySem PySem.Spec PyProof.Rows L2
def fnName : Data → Str
  | .func fd => fd.name
  | _ => ""
theorem fn_ne {K : PySem.W.Frag} {f1 f2 : Addr} {o1 o2 : Obj} (h1 : K.lookup f1 = some o1) (h2 : K.lookup f2 = some o2) (h : fnName o1.data ≠ fnName o2.data) : f1 ≠ f2 := fun e => by
  rw [e, h2] at h1
  cases h1
  exact h rfl
def PkOf (f1 f2 : Addr) : Pks := fun a => if a = f1 then some hiO else if a = f2 then some loO else none
theorem all_mk {l : PySem.W.OpenLaw} {w : World} {K : PySem.W.Frag} {h : Heap} {mg : Str → Option Value} {fa f0 f1 f2 f3 f4 f5 f6 f7 f8 f9 f10 f11 f12 f13 f14 f15 f16 f17 f18 f19 f20 f21 f22 f23 f24 f25 f26 f27 f28 : Addr} (X : K.In h) (G : h.Ns mainGlobals mg) (hfa : mg "law" = some (.ref fa))
    {od0 an0 od1 an1 od2 an2 od3 an3 od4 an4 od5 an5 od6 an6 od7 an7 od8 an8 od9 an9 od10 an10 od11 an11 od12 an12 od13 an13 od14 an14 od15 an15 od16 an16 od17 an17 od18 an18 od19 an19 od20 an20 od21 an21 od22 an22 od23 an23 od24 an24 od25 an25 od26 an26 od27 an27 od28 an28 : Option Addr} {sl0 sl1 sl2 sl3 sl4 sl5 sl6 sl7 sl8 sl9 sl10 sl11 sl12 sl13 sl14 sl15 sl16 sl17 sl18 sl19 sl20 sl21 sl22 sl23 sl24 sl25 sl26 sl27 sl28 : Array (Option Value)} {oc0 kV0 dc0 pm0 cd0 ct0 oc1 kV1 dc1 pm1 cd1 ct1 oc2 kV2 dc2 pm2 cd2 ct2 oc3 kV3 dc3 pm3 cd3 ct3 oc4 kV4 dc4 pm4 cd4 ct4 oc5 kV5 dc5 pm5 cd5 ct5 oc6 kV6 dc6 pm6 cd6 ct6 oc7 kV7 dc7 pm7 cd7 ct7 oc8 kV8 dc8 pm8 cd8 ct8 oc9 kV9 dc9 pm9 cd9 ct9 oc10 kV10 dc10 pm10 cd10 ct10 oc11 kV11 dc11 pm11 cd11 ct11 oc12 kV12 dc12 pm12 cd12 ct12 oc13 kV13 dc13 pm13 cd13 ct13 oc14 kV14 dc14 pm14 cd14 ct14 oc15 kV15 dc15 pm15 cd15 ct15 oc16 kV16 dc16 pm16 cd16 ct16 oc17 kV17 dc17 pm17 cd17 ct17 oc18 kV18 dc18 pm18 cd18 ct18 oc19 kV19 dc19 pm19 cd19 ct19 oc20 kV20 dc20 pm20 cd20 ct20 oc21 kV21 dc21 pm21 cd21 ct21 oc22 kV22 dc22 pm22 cd22 ct22 oc23 kV23 dc23 pm23 cd23 ct23 oc24 kV24 dc24 pm24 cd24 ct24 oc25 kV25 dc25 pm25 cd25 ct25 oc26 kV26 dc26 pm26 cd26 ct26 oc27 kV27 dc27 pm27 cd27 ct27 oc28 kV28 dc28 pm28 cd28 ct28 : Value}
    (a0 : PySem.W.nsIn K mainGlobals "is_above" = some (some (.ref f0))) (l0 : K.lookup f0 = some ⟨oc0, od0, .func (PySem.W.fnOf "is_above" "is_above" (defArgs s_is_above) (defBody s_is_above) (defScope s_is_above) .none kV0 dc0 pm0 an0 cd0 ct0), sl0⟩) (c0 : PySem.W.codeIn K cd0 "is_above" = true) (k0 : PySem.W.keepIn K (.ref f0) = true)
    (a1 : PySem.W.nsIn K mainGlobals "higher_cell" = some (some (.ref f1))) (l1 : K.lookup f1 = some ⟨oc1, od1, .func (PySem.W.fnOf "higher_cell" "higher_cell" (defArgs s_higher_cell) (defBody s_higher_cell) (defScope s_higher_cell) .none kV1 dc1 pm1 an1 cd1 ct1), sl1⟩) (c1 : PySem.W.codeIn K cd1 "higher_cell" = true) (k1 : PySem.W.keepIn K (.ref f1) = true)
    (a2 : PySem.W.nsIn K mainGlobals "lower_cell" = some (some (.ref f2))) (l2 : K.lookup f2 = some ⟨oc2, od2, .func (PySem.W.fnOf "lower_cell" "lower_cell" (defArgs s_lower_cell) (defBody s_lower_cell) (defScope s_lower_cell) .none kV2 dc2 pm2 an2 cd2 ct2), sl2⟩) (c2 : PySem.W.codeIn K cd2 "lower_cell" = true) (k2 : PySem.W.keepIn K (.ref f2) = true)
    (a3 : PySem.W.nsIn K mainGlobals "rows_by_cell" = some (some (.ref f3))) (l3 : K.lookup f3 = some ⟨oc3, od3, .func (PySem.W.fnOf "rows_by_cell" "rows_by_cell" (defArgs s_rows_by_cell) (defBody s_rows_by_cell) (defScope s_rows_by_cell) .none kV3 dc3 pm3 an3 cd3 ct3), sl3⟩) (c3 : PySem.W.codeIn K cd3 "rows_by_cell" = true) (k3 : PySem.W.keepIn K (.ref f3) = true)
    (a4 : PySem.W.nsIn K mainGlobals "cell_by_cell" = some (some (.ref f4))) (l4 : K.lookup f4 = some ⟨oc4, od4, .func (PySem.W.fnOf "cell_by_cell" "cell_by_cell" (defArgs s_cell_by_cell) (defBody s_cell_by_cell) (defScope s_cell_by_cell) .none kV4 dc4 pm4 an4 cd4 ct4), sl4⟩) (c4 : PySem.W.codeIn K cd4 "cell_by_cell" = true) (k4 : PySem.W.keepIn K (.ref f4) = true)
    (a5 : PySem.W.nsIn K mainGlobals "both" = some (some (.ref f5))) (l5 : K.lookup f5 = some ⟨oc5, od5, .func (PySem.W.fnOf "both" "both" (defArgs s_both) (defBody s_both) (defScope s_both) .none kV5 dc5 pm5 an5 cd5 ct5), sl5⟩) (c5 : PySem.W.codeIn K cd5 "both" = true) (k5 : PySem.W.keepIn K (.ref f5) = true)
    (a6 : PySem.W.nsIn K mainGlobals "either" = some (some (.ref f6))) (l6 : K.lookup f6 = some ⟨oc6, od6, .func (PySem.W.fnOf "either" "either" (defArgs s_either) (defBody s_either) (defScope s_either) .none kV6 dc6 pm6 an6 cd6 ct6), sl6⟩) (c6 : PySem.W.codeIn K cd6 "either" = true) (k6 : PySem.W.keepIn K (.ref f6) = true)
    (a7 : PySem.W.nsIn K mainGlobals "is_number" = some (some (.ref f7))) (l7 : K.lookup f7 = some ⟨oc7, od7, .func (PySem.W.fnOf "is_number" "is_number" (defArgs s_is_number) (defBody s_is_number) (defScope s_is_number) .none kV7 dc7 pm7 an7 cd7 ct7), sl7⟩) (c7 : PySem.W.codeIn K cd7 "is_number" = true) (k7 : PySem.W.keepIn K (.ref f7) = true)
    (a8 : PySem.W.nsIn K mainGlobals "is_number_from" = some (some (.ref f8))) (l8 : K.lookup f8 = some ⟨oc8, od8, .func (PySem.W.fnOf "is_number_from" "is_number_from" (defArgs s_is_number_from) (defBody s_is_number_from) (defScope s_is_number_from) .none kV8 dc8 pm8 an8 cd8 ct8), sl8⟩) (c8 : PySem.W.codeIn K cd8 "is_number_from" = true) (k8 : PySem.W.keepIn K (.ref f8) = true)
    (a9 : PySem.W.nsIn K mainGlobals "is_row" = some (some (.ref f9))) (l9 : K.lookup f9 = some ⟨oc9, od9, .func (PySem.W.fnOf "is_row" "is_row" (defArgs s_is_row) (defBody s_is_row) (defScope s_is_row) .none kV9 dc9 pm9 an9 cd9 ct9), sl9⟩) (c9 : PySem.W.codeIn K cd9 "is_row" = true) (k9 : PySem.W.keepIn K (.ref f9) = true)
    (a10 : PySem.W.nsIn K mainGlobals "place_of" = some (some (.ref f10))) (l10 : K.lookup f10 = some ⟨oc10, od10, .func (PySem.W.fnOf "place_of" "place_of" (defArgs s_place_of) (defBody s_place_of) (defScope s_place_of) .none kV10 dc10 pm10 an10 cd10 ct10), sl10⟩) (c10 : PySem.W.codeIn K cd10 "place_of" = true) (k10 : PySem.W.keepIn K (.ref f10) = true)
    (a11 : PySem.W.nsIn K mainGlobals "is_cell" = some (some (.ref f11))) (l11 : K.lookup f11 = some ⟨oc11, od11, .func (PySem.W.fnOf "is_cell" "is_cell" (defArgs s_is_cell) (defBody s_is_cell) (defScope s_is_cell) .none kV11 dc11 pm11 an11 cd11 ct11), sl11⟩) (c11 : PySem.W.codeIn K cd11 "is_cell" = true) (k11 : PySem.W.keepIn K (.ref f11) = true)
    (a12 : PySem.W.nsIn K mainGlobals "is_age_row" = some (some (.ref f12))) (l12 : K.lookup f12 = some ⟨oc12, od12, .func (PySem.W.fnOf "is_age_row" "is_age_row" (defArgs s_is_age_row) (defBody s_is_age_row) (defScope s_is_age_row) .none kV12 dc12 pm12 an12 cd12 ct12), sl12⟩) (c12 : PySem.W.codeIn K cd12 "is_age_row" = true) (k12 : PySem.W.keepIn K (.ref f12) = true)
    (a13 : PySem.W.nsIn K mainGlobals "is_table" = some (some (.ref f13))) (l13 : K.lookup f13 = some ⟨oc13, od13, .func (PySem.W.fnOf "is_table" "is_table" (defArgs s_is_table) (defBody s_is_table) (defScope s_is_table) .none kV13 dc13 pm13 an13 cd13 ct13), sl13⟩) (c13 : PySem.W.codeIn K cd13 "is_table" = true) (k13 : PySem.W.keepIn K (.ref f13) = true)
    (a14 : PySem.W.nsIn K mainGlobals "has" = some (some (.ref f14))) (l14 : K.lookup f14 = some ⟨oc14, od14, .func (PySem.W.fnOf "has" "has" (defArgs s_has) (defBody s_has) (defScope s_has) .none kV14 dc14 pm14 an14 cd14 ct14), sl14⟩) (c14 : PySem.W.codeIn K cd14 "has" = true) (k14 : PySem.W.keepIn K (.ref f14) = true)
    (a15 : PySem.W.nsIn K mainGlobals "_law_pool" = some (some (.ref f15))) (l15 : K.lookup f15 = some ⟨oc15, od15, .func (PySem.W.fnOf "_law_pool" "_law_pool" (defArgs s_law_pool) (defBody s_law_pool) (defScope s_law_pool) .none kV15 dc15 pm15 an15 cd15 ct15), sl15⟩) (c15 : PySem.W.codeIn K cd15 "_law_pool" = true) (k15 : PySem.W.keepIn K (.ref f15) = true)
    (a16 : PySem.W.nsIn K mainGlobals "_law_draw" = some (some (.ref f16))) (l16 : K.lookup f16 = some ⟨oc16, od16, .func (PySem.W.fnOf "_law_draw" "_law_draw" (defArgs s_law_draw) (defBody s_law_draw) (defScope s_law_draw) .none kV16 dc16 pm16 an16 cd16 ct16), sl16⟩) (c16 : PySem.W.codeIn K cd16 "_law_draw" = true) (k16 : PySem.W.keepIn K (.ref f16) = true)
    (a17 : PySem.W.nsIn K mainGlobals "_law_any" = some (some (.ref f17))) (l17 : K.lookup f17 = some ⟨oc17, od17, .func (PySem.W.fnOf "_law_any" "_law_any" (defArgs s_law_any) (defBody s_law_any) (defScope s_law_any) .none kV17 dc17 pm17 an17 cd17 ct17), sl17⟩) (c17 : PySem.W.codeIn K cd17 "_law_any" = true) (k17 : PySem.W.keepIn K (.ref f17) = true)
    (a18 : PySem.W.nsIn K mainGlobals "_law_same" = some (some (.ref f18))) (l18 : K.lookup f18 = some ⟨oc18, od18, .func (PySem.W.fnOf "_law_same" "_law_same" (defArgs s_law_same) (defBody s_law_same) (defScope s_law_same) .none kV18 dc18 pm18 an18 cd18 ct18), sl18⟩) (c18 : PySem.W.codeIn K cd18 "_law_same" = true) (k18 : PySem.W.keepIn K (.ref f18) = true)
    (a19 : PySem.W.nsIn K mainGlobals "_law_way" = some (some (.ref f19))) (l19 : K.lookup f19 = some ⟨oc19, od19, .func (PySem.W.fnOf "_law_way" "_law_way" (defArgs s_law_way) (defBody s_law_way) (defScope s_law_way) .none kV19 dc19 pm19 an19 cd19 ct19), sl19⟩) (c19 : PySem.W.codeIn K cd19 "_law_way" = true) (k19 : PySem.W.keepIn K (.ref f19) = true)
    (a20 : PySem.W.nsIn K mainGlobals "_law_world" = some (some (.ref f20))) (l20 : K.lookup f20 = some ⟨oc20, od20, .func (PySem.W.fnOf "_law_world" "_law_world" (defArgs s_law_world) (defBody s_law_world) (defScope s_law_world) .none kV20 dc20 pm20 an20 cd20 ct20), sl20⟩) (c20 : PySem.W.codeIn K cd20 "_law_world" = true) (k20 : PySem.W.keepIn K (.ref f20) = true)
    (a21 : PySem.W.nsIn K mainGlobals "_law_origin" = some (some (.ref f21))) (l21 : K.lookup f21 = some ⟨oc21, od21, .func (PySem.W.fnOf "_law_origin" "_law_origin" (defArgs s_law_origin) (defBody s_law_origin) (defScope s_law_origin) .none kV21 dc21 pm21 an21 cd21 ct21), sl21⟩) (c21 : PySem.W.codeIn K cd21 "_law_origin" = true) (k21 : PySem.W.keepIn K (.ref f21) = true)
    (a22 : PySem.W.nsIn K mainGlobals "_law_stair" = some (some (.ref f22))) (l22 : K.lookup f22 = some ⟨oc22, od22, .func (PySem.W.fnOf "_law_stair" "_law_stair" (defArgs s_law_stair) (defBody s_law_stair) (defScope s_law_stair) .none kV22 dc22 pm22 an22 cd22 ct22), sl22⟩) (c22 : PySem.W.codeIn K cd22 "_law_stair" = true) (k22 : PySem.W.keepIn K (.ref f22) = true)
    (a23 : PySem.W.nsIn K mainGlobals "_law_table" = some (some (.ref f23))) (l23 : K.lookup f23 = some ⟨oc23, od23, .func (PySem.W.fnOf "_law_table" "_law_table" (defArgs s_law_table) (defBody s_law_table) (defScope s_law_table) .none kV23 dc23 pm23 an23 cd23 ct23), sl23⟩) (c23 : PySem.W.codeIn K cd23 "_law_table" = true) (k23 : PySem.W.keepIn K (.ref f23) = true)
    (a24 : PySem.W.nsIn K mainGlobals "_law_empty" = some (some (.ref f24))) (l24 : K.lookup f24 = some ⟨oc24, od24, .func (PySem.W.fnOf "_law_empty" "_law_empty" (defArgs s_law_empty) (defBody s_law_empty) (defScope s_law_empty) .none kV24 dc24 pm24 an24 cd24 ct24), sl24⟩) (c24 : PySem.W.codeIn K cd24 "_law_empty" = true) (k24 : PySem.W.keepIn K (.ref f24) = true)
    (a25 : PySem.W.nsIn K mainGlobals "_law_stands" = some (some (.ref f25))) (l25 : K.lookup f25 = some ⟨oc25, od25, .func (PySem.W.fnOf "_law_stands" "_law_stands" (defArgs s_law_stands) (defBody s_law_stands) (defScope s_law_stands) .none kV25 dc25 pm25 an25 cd25 ct25), sl25⟩) (c25 : PySem.W.codeIn K cd25 "_law_stands" = true) (k25 : PySem.W.keepIn K (.ref f25) = true)
    (a26 : PySem.W.nsIn K mainGlobals "_law_has" = some (some (.ref f26))) (l26 : K.lookup f26 = some ⟨oc26, od26, .func (PySem.W.fnOf "_law_has" "_law_has" (defArgs s_law_has) (defBody s_law_has) (defScope s_law_has) .none kV26 dc26 pm26 an26 cd26 ct26), sl26⟩) (c26 : PySem.W.codeIn K cd26 "_law_has" = true) (k26 : PySem.W.keepIn K (.ref f26) = true)
    (a27 : PySem.W.nsIn K mainGlobals "_law_mixed" = some (some (.ref f27))) (l27 : K.lookup f27 = some ⟨oc27, od27, .func (PySem.W.fnOf "_law_mixed" "_law_mixed" (defArgs s_law_mixed) (defBody s_law_mixed) (defScope s_law_mixed) .none kV27 dc27 pm27 an27 cd27 ct27), sl27⟩) (c27 : PySem.W.codeIn K cd27 "_law_mixed" = true) (k27 : PySem.W.keepIn K (.ref f27) = true)
    (a28 : PySem.W.nsIn K mainGlobals "law" = some (some (.ref f28))) (l28 : K.lookup f28 = some ⟨oc28, od28, .func (PySem.W.fnOf "law" "law" (defArgs s_law) (defBody s_law) (defScope s_law) .none kV28 dc28 pm28 an28 cd28 ct28), sl28⟩) (c28 : PySem.W.codeIn K cd28 "law" = true) (k28 : PySem.W.keepIn K (.ref f28) = true)
    (z_tuple : PySem.W.nsIn K mainGlobals "tuple" = some none)
    (z_zip : PySem.W.nsIn K mainGlobals "zip" = some none)
    (z_isinstance : PySem.W.nsIn K mainGlobals "isinstance" = some none)
    (z_int : PySem.W.nsIn K mainGlobals "int" = some none)
    (z_bool : PySem.W.nsIn K mainGlobals "bool" = some none)
    (z_len : PySem.W.nsIn K mainGlobals "len" = some none)
    (z_all : PySem.W.nsIn K mainGlobals "all" = some none)
    (z_any : PySem.W.nsIn K mainGlobals "any" = some none)
    (z_enumerate : PySem.W.nsIn K mainGlobals "enumerate" = some none)
    (z_min : PySem.W.nsIn K mainGlobals "min" = some none)
    (z_repr : PySem.W.nsIn K mainGlobals "repr" = some none)
    (z_range : PySem.W.nsIn K mainGlobals "range" = some none)
    (z_max : PySem.W.nsIn K mainGlobals "max" = some none)
    {t_OLD : Tok} (y_OLD : PySem.W.nsIn K mainGlobals "OLD" = some (some (.int 20 t_OLD)))
    {t_READY : Tok} (y_READY : PySem.W.nsIn K mainGlobals "READY" = some (some (.int 26 t_READY)))
    {t_LAST : Tok} (y_LAST : PySem.W.nsIn K mainGlobals "LAST" = some (some (.int 3000000000000000 t_LAST)))
    : ∃ fd : FuncData, (∀ (s : Shared) (v : Value), BindsTo s fd ⟨[v], []⟩ [("_law_script", v)]) ∧ ∀ base : Heap, K.In base → base.Ns mainGlobals mg → FnG l.prog w K mg base 6 fa fd ["_law_script"] (spLaw K) := by
  have e := hfa.symm.trans (PySem.W.mg_of X G a28)
  cases e
  have F0 := fun_mk (st := s_is_above) l0 c0 k0
  have b0 := F0.binds (ps := ["one", "other"]) fun _ _ _ _ _ _ us hl => match us, hl with | [_, _], _ => rfl
  have g0 := PySem.W.mg_of X G a0
  have F1 := fun_mk (st := s_higher_cell) l1 c1 k1
  have b1 := F1.binds (ps := ["one", "other"]) fun _ _ _ _ _ _ us hl => match us, hl with | [_, _], _ => rfl
  have g1 := PySem.W.mg_of X G a1
  have F2 := fun_mk (st := s_lower_cell) l2 c2 k2
  have b2 := F2.binds (ps := ["one", "other"]) fun _ _ _ _ _ _ us hl => match us, hl with | [_, _], _ => rfl
  have g2 := PySem.W.mg_of X G a2
  have F3 := fun_mk (st := s_rows_by_cell) l3 c3 k3
  have b3 := F3.binds (ps := ["choose", "row", "beside"]) fun _ _ _ _ _ _ us hl => match us, hl with | [_, _, _], _ => rfl
  have g3 := PySem.W.mg_of X G a3
  have F4 := fun_mk (st := s_cell_by_cell) l4 c4 k4
  have b4 := F4.binds (ps := ["choose", "one", "other"]) fun _ _ _ _ _ _ us hl => match us, hl with | [_, _, _], _ => rfl
  have g4 := PySem.W.mg_of X G a4
  have F5 := fun_mk (st := s_both) l5 c5 k5
  have b5 := F5.binds (ps := ["world", "one", "other"]) fun _ _ _ _ _ _ us hl => match us, hl with | [_, _, _], _ => rfl
  have g5 := PySem.W.mg_of X G a5
  have F6 := fun_mk (st := s_either) l6 c6 k6
  have b6 := F6.binds (ps := ["world", "one", "other"]) fun _ _ _ _ _ _ us hl => match us, hl with | [_, _, _], _ => rfl
  have g6 := PySem.W.mg_of X G a6
  have F7 := fun_mk (st := s_is_number) l7 c7 k7
  have b7 := F7.binds (ps := ["thing"]) fun _ _ _ _ _ _ us hl => match us, hl with | [_], _ => rfl
  have g7 := PySem.W.mg_of X G a7
  have F8 := fun_mk (st := s_is_number_from) l8 c8 k8
  have b8 := F8.binds (ps := ["thing", "low", "high"]) fun _ _ _ _ _ _ us hl => match us, hl with | [_, _, _], _ => rfl
  have g8 := PySem.W.mg_of X G a8
  have F9 := fun_mk (st := s_is_row) l9 c9 k9
  have b9 := F9.binds (ps := ["thing", "fewest", "most"]) fun _ _ _ _ _ _ us hl => match us, hl with | [_, _, _], _ => rfl
  have g9 := PySem.W.mg_of X G a9
  have F10 := fun_mk (st := s_place_of) l10 c10 k10
  have b10 := F10.binds (ps := ["world", "number"]) fun _ _ _ _ _ _ us hl => match us, hl with | [_, _], _ => rfl
  have g10 := PySem.W.mg_of X G a10
  have F11 := fun_mk (st := s_is_cell) l11 c11 k11
  have b11 := F11.binds (ps := ["world", "place", "cell"]) fun _ _ _ _ _ _ us hl => match us, hl with | [_, _, _], _ => rfl
  have g11 := PySem.W.mg_of X G a11
  have F12 := fun_mk (st := s_is_age_row) l12 c12 k12
  have b12 := F12.binds (ps := ["world", "place", "row"]) fun _ _ _ _ _ _ us hl => match us, hl with | [_, _, _], _ => rfl
  have g12 := PySem.W.mg_of X G a12
  have F13 := fun_mk (st := s_is_table) l13 c13 k13
  have b13 := F13.binds (ps := ["world", "thing"]) fun _ _ _ _ _ _ us hl => match us, hl with | [_, _], _ => rfl
  have g13 := PySem.W.mg_of X G a13
  have F14 := fun_mk (st := s_has) l14 c14 k14
  have b14 := F14.binds (ps := ["world", "table", "kind", "origin", "age"]) fun _ _ _ _ _ _ us hl => match us, hl with | [_, _, _, _, _], _ => rfl
  have g14 := PySem.W.mg_of X G a14
  have F15 := fun_mk (st := s_law_pool) l15 c15 k15
  have b15 := F15.binds (ps := ["_law_script"]) fun _ _ _ _ _ _ us hl => match us, hl with | [_], _ => rfl
  have g15 := PySem.W.mg_of X G a15
  have F16 := fun_mk (st := s_law_draw) l16 c16 k16
  have b16 := F16.binds (ps := ["_law_pool_here", "_law_many"]) fun _ _ _ _ _ _ us hl => match us, hl with | [_, _], _ => rfl
  have g16 := PySem.W.mg_of X G a16
  have F17 := fun_mk (st := s_law_any) l17 c17 k17
  have b17 := F17.binds (ps := ["_law_pool_here", "_law_some"]) fun _ _ _ _ _ _ us hl => match us, hl with | [_, _], _ => rfl
  have g17 := PySem.W.mg_of X G a17
  have F18 := fun_mk (st := s_law_same) l18 c18 k18
  have b18 := F18.binds (ps := ["_law_found", "_law_due"]) fun _ _ _ _ _ _ us hl => match us, hl with | [_, _], _ => rfl
  have g18 := PySem.W.mg_of X G a18
  have F19 := fun_mk (st := s_law_way) l19 c19 k19
  have b19 := F19.binds (ps := ["_law_pool_here", "_law_size", "_law_names", "_law_wide"]) fun _ _ _ _ _ _ us hl => match us, hl with | [_, _, _, _], _ => rfl
  have g19 := PySem.W.mg_of X G a19
  have F20 := fun_mk (st := s_law_world) l20 c20 k20
  have b20 := F20.binds (ps := ["_law_pool_here", "_law_wide"]) fun _ _ _ _ _ _ us hl => match us, hl with | [_, _], _ => rfl
  have g20 := PySem.W.mg_of X G a20
  have F21 := fun_mk (st := s_law_origin) l21 c21 k21
  have b21 := F21.binds (ps := ["_law_pool_here", "_law_size", "_law_place", "_law_peaks"]) fun _ _ _ _ _ _ us hl => match us, hl with | [_, _, _, _], _ => rfl
  have g21 := PySem.W.mg_of X G a21
  have F22 := fun_mk (st := s_law_stair) l22 c22 k22
  have b22 := F22.binds (ps := ["_law_pool_here", "_law_size", "_law_place", "_law_peaks"]) fun _ _ _ _ _ _ us hl => match us, hl with | [_, _, _, _], _ => rfl
  have g22 := PySem.W.mg_of X G a22
  have F23 := fun_mk (st := s_law_table) l23 c23 k23
  have b23 := F23.binds (ps := ["_law_pool_here", "_law_world_here", "_law_peaks"]) fun _ _ _ _ _ _ us hl => match us, hl with | [_, _, _], _ => rfl
  have g23 := PySem.W.mg_of X G a23
  have F24 := fun_mk (st := s_law_empty) l24 c24 k24
  have b24 := F24.binds (ps := ["_law_world_here"]) fun _ _ _ _ _ _ us hl => match us, hl with | [_], _ => rfl
  have g24 := PySem.W.mg_of X G a24
  have F25 := fun_mk (st := s_law_stands) l25 c25 k25
  have b25 := F25.binds (ps := ["_law_world_here", "_law_sheet", "_law_kind", "_law_place", "_law_age"]) fun _ _ _ _ _ _ us hl => match us, hl with | [_, _, _, _, _], _ => rfl
  have g25 := PySem.W.mg_of X G a25
  have F26 := fun_mk (st := s_law_has) l26 c26 k26
  have b26 := F26.binds (ps := ["_law_world_here", "_law_sheet", "_law_kind", "_law_origin_here", "_law_age"]) fun _ _ _ _ _ _ us hl => match us, hl with | [_, _, _, _, _], _ => rfl
  have g26 := PySem.W.mg_of X G a26
  have F27 := fun_mk (st := s_law_mixed) l27 c27 k27
  have b27 := F27.binds (ps := ["_law_one", "_law_other", "_law_is_lesser"]) fun _ _ _ _ _ _ us hl => match us, hl with | [_, _, _], _ => rfl
  have g27 := PySem.W.mg_of X G a27
  have F28 := fun_mk (st := s_law) l28 c28 k28
  have b28 := F28.binds (ps := ["_law_script"]) fun _ _ _ _ _ _ us hl => match us, hl with | [_], _ => rfl
  have g28 := PySem.W.mg_of X G a28
  have m_tuple := PySem.W.mg_none_of X G z_tuple
  have m_zip := PySem.W.mg_none_of X G z_zip
  have m_isinstance := PySem.W.mg_none_of X G z_isinstance
  have m_int := PySem.W.mg_none_of X G z_int
  have m_bool := PySem.W.mg_none_of X G z_bool
  have m_len := PySem.W.mg_none_of X G z_len
  have m_all := PySem.W.mg_none_of X G z_all
  have m_any := PySem.W.mg_none_of X G z_any
  have m_enumerate := PySem.W.mg_none_of X G z_enumerate
  have m_min := PySem.W.mg_none_of X G z_min
  have m_repr := PySem.W.mg_none_of X G z_repr
  have m_range := PySem.W.mg_none_of X G z_range
  have m_max := PySem.W.mg_none_of X G z_max
  have g_OLD := PySem.W.mg_of X G y_OLD
  have g_READY := PySem.W.mg_of X G y_READY
  have g_LAST := PySem.W.mg_of X G y_LAST
  refine ⟨PySem.W.fnOf "law" "law" (defArgs s_law) (defBody s_law) (defScope s_law) .none kV28 dc28 pm28 an28 cd28 ct28, fun s v => .of_eq rfl, fun base _ _ => ?_⟩
  have C0 : Cl l.prog w K mg base 1 "is_above" ["one", "other"] (spAbove) := ⟨f0, _, ok_above F0, g0, F0.kp, b0⟩
  have C1 : Cl l.prog w K mg base 2 "higher_cell" ["one", "other"] (spPick hiO) := ⟨f1, _, ok_higher F1 C0, g1, F1.kp, b1⟩
  have C2 : Cl l.prog w K mg base 2 "lower_cell" ["one", "other"] (spPick loO) := ⟨f2, _, ok_lower F2 C0, g2, F2.kp, b2⟩
  have ne : f1 ≠ f2 := fn_ne l1 l2 (show (Str.ofString "higher_cell") ≠ (Str.ofString "lower_cell") by decide +kernel)
  have kk1 : PkOf f1 f2 f1 = some hiO := if_pos rfl
  have kk2 : PkOf f1 f2 f2 = some loO := (if_neg (fun z => ne z.symm)).trans (if_pos rfl)
  have hA : ∀ f sp, SP (PkOf f1 f2) f = some sp → Held l.prog w K mg base 2 f sp := fun f sp h => by
    by_cases e1 : f = f1
    · rw [e1] at h ⊢
      have h : (PkOf f1 f2 f1).map spPick = some sp := h
      rw [kk1] at h
      cases h
      exact ⟨⟨_, _, ok_higher F1 C0, F1.kp, b1⟩⟩
    · by_cases e2 : f = f2
      · rw [e2] at h ⊢
        have h : (PkOf f1 f2 f2).map spPick = some sp := h
        rw [kk2] at h
        cases h
        exact ⟨⟨_, _, ok_lower F2 C0, F2.kp, b2⟩⟩
      · have h : (PkOf f1 f2 f).map spPick = some sp := h
        have z : PkOf f1 f2 f = none := (if_neg e1).trans (if_neg e2)
        rw [z] at h
        cases h
  have C3 : Cl l.prog w K mg base 3 "rows_by_cell" ["choose", "row", "beside"] (spRows (PkOf f1 f2)) := ⟨f3, _, ok_rows F3 m_tuple m_zip hA, g3, F3.kp, b3⟩
  have C4 : Cl l.prog w K mg base 4 "cell_by_cell" ["choose", "one", "other"] (spCbc (PkOf f1 f2)) := ⟨f4, _, ok_cbc F4 m_tuple m_zip C3, g4, F4.kp, b4⟩
  have C5 : Cl l.prog w K mg base 5 "both" ["world", "one", "other"] (spBoth hiO) := ⟨f5, _, ok_both F5 g1 kk1 C4, g5, F5.kp, b5⟩
  have C6 : Cl l.prog w K mg base 5 "either" ["world", "one", "other"] (spBoth loO) := ⟨f6, _, ok_either F6 g2 kk2 C4, g6, F6.kp, b6⟩
  have C7 : Cl l.prog w K mg base 1 "is_number" ["thing"] (spNumb) := ⟨f7, _, ok_numb F7 m_isinstance m_int m_bool, g7, F7.kp, b7⟩
  have C8 : Cl l.prog w K mg base 2 "is_number_from" ["thing", "low", "high"] (spFrom) := ⟨f8, _, ok_from F8 C7, g8, F8.kp, b8⟩
  have C9 : Cl l.prog w K mg base 1 "is_row" ["thing", "fewest", "most"] (spRow) := ⟨f9, _, ok_row F9 m_isinstance m_tuple m_len, g9, F9.kp, b9⟩
  have C10 : Cl l.prog w K mg base 1 "place_of" ["world", "number"] (spPlace) := ⟨f10, _, ok_place F10, g10, F10.kp, b10⟩
  have C11 : Cl l.prog w K mg base 3 "is_cell" ["world", "place", "cell"] (spCellOk) := ⟨f11, _, ok_cellok F11 g_OLD g_LAST C8 C10, g11, F11.kp, b11⟩
  have C12 : Cl l.prog w K mg base 4 "is_age_row" ["world", "place", "row"] (spAgeRow) := ⟨f12, _, ok_agerow F12 g_READY m_all m_any m_zip C9 C11 C0, g12, F12.kp, b12⟩
  have C13 : Cl l.prog w K mg base 5 "is_table" ["world", "thing"] (spIsTab) := ⟨f13, _, ok_istab F13 m_len m_all m_enumerate C9 C12, g13, F13.kp, b13⟩
  have C14 : Cl l.prog w K mg base 2 "has" ["world", "table", "kind", "origin", "age"] (spHas) := ⟨f14, _, ok_has F14 m_min g_READY C10, g14, F14.kp, b14⟩
  have C15 : Cl l.prog w K mg base 1 "_law_pool" ["_law_script"] (spDraws K) := ⟨f15, _, ok_pool F15, g15, F15.kp, b15⟩
  have C16 : Cl l.prog w K mg base 1 "_law_draw" ["_law_pool_here", "_law_many"] (spNext) := ⟨f16, _, ok_draw F16 m_len, g16, F16.kp, b16⟩
  have C17 : Cl l.prog w K mg base 2 "_law_any" ["_law_pool_here", "_law_some"] (spOne K) := ⟨f17, _, ok_any F17 m_len C16, g17, F17.kp, b17⟩
  have C18 : ClG l.prog w K mg base 1 "_law_same" ["_law_found", "_law_due"] (spSameD K) := ⟨f18, _, ok_sameD F18 m_repr, g18, F18.kp, b18⟩
  have C19 : Cl l.prog w K mg base 3 "_law_way" ["_law_pool_here", "_law_size", "_law_names", "_law_wide"] (spWay) := ⟨f19, _, ok_way F19 m_range m_tuple m_int m_min C16 C17, g19, F19.kp, b19⟩
  have C20 : Cl l.prog w K mg base 4 "_law_world" ["_law_pool_here", "_law_wide"] (spWorld) := ⟨f20, _, ok_world F20 m_range m_tuple m_int C16 C17 C19, g20, F20.kp, b20⟩
  have C21 : Cl l.prog w K mg base 3 "_law_origin" ["_law_pool_here", "_law_size", "_law_place", "_law_peaks"] (spOrigin) := ⟨f21, _, ok_origin F21 m_int C16 C17, g21, F21.kp, b21⟩
  have C22 : Cl l.prog w K mg base 4 "_law_stair" ["_law_pool_here", "_law_size", "_law_place", "_law_peaks"] (spStair) := ⟨f22, _, ok_stair F22 m_range m_tuple C16 C21, g22, F22.kp, b22⟩
  have C23 : Cl l.prog w K mg base 5 "_law_table" ["_law_pool_here", "_law_world_here", "_law_peaks"] (spTable) := ⟨f23, _, ok_table F23 m_range m_tuple C22, g23, F23.kp, b23⟩
  have C24 : Cl l.prog w K mg base 1 "_law_empty" ["_law_world_here"] (spEmpty) := ⟨f24, _, ok_empty F24 m_len, g24, F24.kp, b24⟩
  have C25 : Cl l.prog w K mg base 1 "_law_stands" ["_law_world_here", "_law_sheet", "_law_kind", "_law_place", "_law_age"] (spStands) := ⟨f25, _, ok_stands F25 m_min, g25, F25.kp, b25⟩
  have C26 : Cl l.prog w K mg base 2 "_law_has" ["_law_world_here", "_law_sheet", "_law_kind", "_law_origin_here", "_law_age"] (spHas) := ⟨f26, _, ok_lhas F26 C25, g26, F26.kp, b26⟩
  have C27 : Cl l.prog w K mg base 1 "_law_mixed" ["_law_one", "_law_other", "_law_is_lesser"] (spMixed) := ⟨f27, _, ok_mixed F27 m_zip m_tuple m_min m_max m_len, g27, F27.kp, b27⟩
  exact ok_law F28 m_repr m_range m_min C15 C20 C23 C16 C17 C21 C24 C27 C5 C6 C13 C26 C14 C18
end Rt
open PySem PySem.W PyProof.Rows
set_option maxHeartbeats 0 in
theorem PySem.Challenge.cw_rightage_k14_tables_put_together_holds : PySem.Challenge.rw_rightage_k14_tables_put_together.Holds := by
  w_on; o_law; k_head; (case hw => w_witness2)
  k_fill
  refine Rt.walk_G (l := PySem.Challenge.rw_rightage_k14_tables_put_together) (n := 63) (k := 6) (x := "_law_script") (sp := fun w => Rt.spLaw _) rfl (by decide) rfl ⟨rfl, by decide, by decide⟩ (fun w h Y => PySem.W.kIn_of Y) ?F (fun _ _ a ns hl _ hS => ⟨a, ns, rfl, hS, hl, fun _ => rfl⟩)
  case F =>
    intro w mg fa h KX G hmg
    refine' Rt.all_mk KX G hmg ?a0 ?l0 ?c0 ?k0 ?a1 ?l1 ?c1 ?k1 ?a2 ?l2 ?c2 ?k2 ?a3 ?l3 ?c3 ?k3 ?a4 ?l4 ?c4 ?k4 ?a5 ?l5 ?c5 ?k5 ?a6 ?l6 ?c6 ?k6 ?a7 ?l7 ?c7 ?k7 ?a8 ?l8 ?c8 ?k8 ?a9 ?l9 ?c9 ?k9 ?a10 ?l10 ?c10 ?k10 ?a11 ?l11 ?c11 ?k11 ?a12 ?l12 ?c12 ?k12 ?a13 ?l13 ?c13 ?k13 ?a14 ?l14 ?c14 ?k14 ?a15 ?l15 ?c15 ?k15 ?a16 ?l16 ?c16 ?k16 ?a17 ?l17 ?c17 ?k17 ?a18 ?l18 ?c18 ?k18 ?a19 ?l19 ?c19 ?k19 ?a20 ?l20 ?c20 ?k20 ?a21 ?l21 ?c21 ?k21 ?a22 ?l22 ?c22 ?k22 ?a23 ?l23 ?c23 ?k23 ?a24 ?l24 ?c24 ?k24 ?a25 ?l25 ?c25 ?k25 ?a26 ?l26 ?c26 ?k26 ?a27 ?l27 ?c27 ?k27 ?a28 ?l28 ?c28 ?k28 ?z_tuple ?z_zip ?z_isinstance ?z_int ?z_bool ?z_len ?z_all ?z_any ?z_enumerate ?z_min ?z_repr ?z_range ?z_max ?y_OLD ?y_READY ?y_LAST
    (case a0 => k_is)
    (case l0 => k_is)
    (case c0 => k_is)
    (case k0 => k_is)
    (case a1 => k_is)
    (case l1 => k_is)
    (case c1 => k_is)
    (case k1 => k_is)
    (case a2 => k_is)
    (case l2 => k_is)
    (case c2 => k_is)
    (case k2 => k_is)
    (case a3 => k_is)
    (case l3 => k_is)
    (case c3 => k_is)
    (case k3 => k_is)
    (case a4 => k_is)
    (case l4 => k_is)
    (case c4 => k_is)
    (case k4 => k_is)
    (case a5 => k_is)
    (case l5 => k_is)
    (case c5 => k_is)
    (case k5 => k_is)
    (case a6 => k_is)
    (case l6 => k_is)
    (case c6 => k_is)
    (case k6 => k_is)
    (case a7 => k_is)
    (case l7 => k_is)
    (case c7 => k_is)
    (case k7 => k_is)
    (case a8 => k_is)
    (case l8 => k_is)
    (case c8 => k_is)
    (case k8 => k_is)
    (case a9 => k_is)
    (case l9 => k_is)
    (case c9 => k_is)
    (case k9 => k_is)
    (case a10 => k_is)
    (case l10 => k_is)
    (case c10 => k_is)
    (case k10 => k_is)
    (case a11 => k_is)
    (case l11 => k_is)
    (case c11 => k_is)
    (case k11 => k_is)
    (case a12 => k_is)
    (case l12 => k_is)
    (case c12 => k_is)
    (case k12 => k_is)
    (case a13 => k_is)
    (case l13 => k_is)
    (case c13 => k_is)
    (case k13 => k_is)
    (case a14 => k_is)
    (case l14 => k_is)
    (case c14 => k_is)
    (case k14 => k_is)
    (case a15 => k_is)
    (case l15 => k_is)
    (case c15 => k_is)
    (case k15 => k_is)
    (case a16 => k_is)
    (case l16 => k_is)
    (case c16 => k_is)
    (case k16 => k_is)
    (case a17 => k_is)
    (case l17 => k_is)
    (case c17 => k_is)
    (case k17 => k_is)
    (case a18 => k_is)
    (case l18 => k_is)
    (case c18 => k_is)
    (case k18 => k_is)
    (case a19 => k_is)
    (case l19 => k_is)
    (case c19 => k_is)
    (case k19 => k_is)
    (case a20 => k_is)
    (case l20 => k_is)
    (case c20 => k_is)
    (case k20 => k_is)
    (case a21 => k_is)
    (case l21 => k_is)
    (case c21 => k_is)
    (case k21 => k_is)
    (case a22 => k_is)
    (case l22 => k_is)
    (case c22 => k_is)
    (case k22 => k_is)
    (case a23 => k_is)
    (case l23 => k_is)
    (case c23 => k_is)
    (case k23 => k_is)
    (case a24 => k_is)
    (case l24 => k_is)
    (case c24 => k_is)
    (case k24 => k_is)
    (case a25 => k_is)
    (case l25 => k_is)
    (case c25 => k_is)
    (case k25 => k_is)
    (case a26 => k_is)
    (case l26 => k_is)
    (case c26 => k_is)
    (case k26 => k_is)
    (case a27 => k_is)
    (case l27 => k_is)
    (case c27 => k_is)
    (case k27 => k_is)
    (case a28 => k_is)
    (case l28 => k_is)
    (case c28 => k_is)
    (case k28 => k_is)
    (case z_tuple => k_is)
    (case z_zip => k_is)
    (case z_isinstance => k_is)
    (case z_int => k_is)
    (case z_bool => k_is)
    (case z_len => k_is)
    (case z_all => k_is)
    (case z_any => k_is)
    (case z_enumerate => k_is)
    (case z_min => k_is)
    (case z_repr => k_is)
    (case z_range => k_is)
    (case z_max => k_is)
    (case y_OLD => k_is)
    (case y_READY => k_is)
    (case y_LAST => k_is)
