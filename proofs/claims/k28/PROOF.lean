import PyProof.Rows.All
import Wide.All
import OpenK.AllK
import Wide.FinOn
import HandS.ForMost
import HandS.Set
import HandS.SetFor
import HandS.TupLe
import HandS.DictComp
import HandS.RevRange
import HandS.Iter
import HandS.Wide
import HandS.WideBits
import HandS.NoneIn
import HandS.IsInst
import HandS.Zip
import HandS.Walk
import HandS.Style
import HandS.CallLocal
import HandS.TupAny
import HandS.TupMul
import KE.GoesEnum
import HandS.Conv
import HandS.Strs
import HandS.Deep
import HandS.Flow
import PyProof.ReprRoads
import PyProof.ReprLen
import PyProof.FitsInt
import KE.DatumOrd
import HandS.SortKw
import PyProof.DictMoreH
import HandS.SetKeys
import PyProof.SumWalk
import PyProof.ListOps
import HandS.DictTup
import HandS.TryOnly
import HandS.Text
import HandS.FStr
import KE.KUnpackStar
import PyProof.ListStr
import HandS.ExcIs
import HandS.ExcInit
import HandS.ExcField
import KE.KExcIs
import HandS.WordsExc
import PyProof.Rows.IntBool
import PyProof.StrLawsRepr
import HandS.SortInts
import HandS.SortRule
import KE.SortData
import KE.SortLaws
import KE.GoesNew
import PySem.Challenge.RW_rightage_k28_wishes_judged
set_option Elab.async false
set_option linter.all false
set_option maxRecDepth 100000
set_option maxHeartbeats 4000000
namespace Rt
open PySem PySem.Spec PyProof.Rows L2

/-! ### a def of the text as its callers see it -/
structure Cl (P : Program) (w : World) (K : PySem.W.Frag) (mg : Str → Option Value) (base : Heap) (k : Nat) (x : Str) (ps : List Str) (sp : Sp) : Prop where
  ex : ∃ (f : Addr) (fd : FuncData), FnOk P w K mg base CX0 k f fd ps sp ∧ mg x = some (.ref f) ∧ PySem.W.keepIn K (.ref f) = true ∧ Binds K fd ps []
section
variable {X : Cx}
theorem pe_cl {k : Nat} {x : Str} {ps : List Str} {sp : Sp} {p pos : Pos} {e : Expr} {es : List Expr} {t : TA} (C : Cl X.prog X.w X.K X.mg X.base k x ps sp) (hr : Room k X.A) (hg : Gl X x) (ha : PA X (e :: es) t)
    (hdb : (x == ("__debug__" : Str)) = false := by decide) (he : starEach (e :: es) X.env = (false, eval e X.env) :: starEach es X.env := by rfl) (hpl : (backTo pos (starEach es X.env)).any (·.1) = false := by rfl) :
    PE X (.Call (.Name x p) (e :: es) [] pos) (tCall sp [] E0 t) := by
  obtain ⟨f, fd, F, hm, hk, hb⟩ := C.ex
  exact pe_call F hr hg hm hk hb .nil pass0 ha hdb he hpl
end


/-! ### rules that hand on letters -/
section
variable {X : Cx}
theorem OpR.weak {f : Value → Value → Sem Value} {r r' : R2} (o : OpR X f r) (m : ∀ x y H Q, r' x y H Q → r x y H Q) : OpR X f r' := fun pn s σ H x y v u Q I a b q => o pn s σ H x y v u Q I a b (m _ _ _ _ q)
def rModL : R2 := fun x y H Q => ∃ i j : Int, x = .int i ∧ y = .int j ∧ 0 < j ∧ ∀ z : Int, z = i % j → 0 ≤ z → z < j → Q (.int z) H
theorem op_modL : OpR X (binaryOp .Mod) rModL := OpR.weak op_mod fun x y H Q h => by
  obtain ⟨i, j, rfl, rfl, hj, q⟩ := h
  exact ⟨i, j, rfl, rfl, hj, q _ rfl (Int.emod_nonneg _ (by omega)) (Int.emod_lt_of_pos _ hj)⟩
def rPowL : R2 := fun x y H Q => ∃ i j : Int, x = .int i ∧ y = .int j ∧ 0 ≤ j ∧ j ≤ 1000000 ∧ i.natAbs < 2 ^ 64 ∧ ∀ z : Int, z = i ^ j.toNat → Q (.int z) H
theorem op_powL : OpR X (binaryOp .Pow) rPowL := OpR.weak op_pow fun x y H Q h => by
  obtain ⟨i, j, rfl, rfl, h0, h1, h2, q⟩ := h
  exact ⟨i, j, rfl, rfl, ⟨h0, h1, h2⟩, q _ rfl⟩
def rMulL : R2 := fun x y H Q => ∃ i j : Int, x = .int i ∧ y = .int j ∧ CMul i j ∧ ∀ z : Int, z = i * j → Q (.int z) H
theorem op_mulL : OpR X (binaryOp .Mult) rMulL := OpR.weak op_mul fun x y H Q h => by
  obtain ⟨i, j, rfl, rfl, h2, q⟩ := h
  exact ⟨i, j, rfl, rfl, h2, q _ rfl⟩
def rAddL : R2 := fun x y H Q => ∃ i j : Int, x = .int i ∧ y = .int j ∧ ∀ z : Int, z = i + j → Q (.int z) H
theorem op_addL : OpR X (binaryOp .Add) rAddL := OpR.weak op_add fun x y H Q h => by
  obtain ⟨i, j, rfl, rfl, q⟩ := h
  exact ⟨i, j, rfl, rfl, q _ rfl⟩
def rSubL : R2 := fun x y H Q => ∃ i j : Int, x = .int i ∧ y = .int j ∧ ∀ z : Int, z = i - j → Q (.int z) H
theorem op_subL : OpR X (binaryOp .Sub) rSubL := OpR.weak op_sub fun x y H Q h => by
  obtain ⟨i, j, rfl, rfl, q⟩ := h
  exact ⟨i, j, rfl, rfl, q _ rfl⟩
def rDivL : R2 := fun x y H Q => ∃ i j : Int, x = .int i ∧ y = .int j ∧ CDivW i j ∧ ∀ z : Int, z = i / j → Q (.int z) H
theorem op_divL : OpR X (binaryOp .FloorDiv) rDivL := OpR.weak op_fdivW fun x y H Q h => by
  obtain ⟨i, j, rfl, rfl, h2, q⟩ := h
  exact ⟨i, j, rfl, rfl, h2, q _ rfl⟩
def rSetLL : V → V → V → Hp → (Hp → Prop) → Prop := fun o i v H Q => ∃ p xs k j, o = .ref p ∧ i = .int k ∧ H p = some (.lst xs) ∧ ixN xs.length k = some j ∧ ∀ H', H' = upd H p (.lst (xs.set j v)) → Q H'
theorem set_listL : PSet X rSetLL := fun pn s σ H o i v ov iv u Q I a b c h => set_list pn s σ H o i v ov iv u Q I a b c (by
  obtain ⟨p, xs, k, j, e1, e2, e3, e4, q⟩ := h
  exact ⟨p, xs, k, j, e1, e2, e3, e4, q _ rfl⟩)
def tTupL (t : TA) : TE := fun σ H Q => t σ H fun xs H1 => xs.length ≤ sizeLine ∧ ∀ p H2, H1 p = none → H2 = upd H1 p (.tup xs) → Q (.ref p) H2
def tLstL (t : TA) : TE := fun σ H Q => t σ H fun xs H1 => xs.length ≤ sizeLine ∧ ∀ p H2, H1 p = none → H2 = upd H1 p (.lst xs) → Q (.ref p) H2
/-- consequence -/
theorem PA.weak {es : List Expr} {t t' : TA} (h : PA X es t) (m : ∀ σ H Q, t' σ H Q → ∃ Q', t σ H Q' ∧ ∀ v H', Q' v H' → Q v H') : PA X es t' := ⟨fun po pn s σ H Q I q => by
  obtain ⟨Q', a, b⟩ := m _ _ _ q
  exact wpAny_mono (h.run po pn s σ H Q' I a) (fun us s1 ⟨vs, H1, I1, r1, q1⟩ => ⟨vs, H1, I1, r1, b _ _ q1⟩) fun _ _ z => z⟩
theorem pe_tupL {es : List Expr} {t : TA} {x1} {pos : Pos} (h : PA X es t) : PE X (.Tuple es x1 pos) (tTupL t) :=
  ⟨fun pn s σ H Q I q => (pe_tup (x1 := x1) (pos := pos) (PA.weak (t' := fun σ H Q => ∃ Q', t σ H Q' ∧ ∀ v H', Q' v H' → Q v H') h fun _ _ _ z => z)).run pn s σ H Q I ⟨_, q, fun xs H1 z => ⟨z.1, fun p hp => z.2 p _ hp rfl⟩⟩⟩
theorem pe_lstL {es : List Expr} {t : TA} {pos : Pos} (h : PA X es t) : PE X (.List es pos) (tLstL t) :=
  ⟨fun pn s σ H Q I q => (pe_lst (pos := pos) (PA.weak (t' := fun σ H Q => ∃ Q', t σ H Q' ∧ ∀ v H', Q' v H' → Q v H') h fun _ _ _ z => z)).run pn s σ H Q I ⟨_, q, fun xs H1 z => ⟨z.1, fun p hp => z.2 p _ hp rfl⟩⟩⟩
end

theorem sz {n : Nat} (h : n ≤ 100000) : n ≤ sizeLine := Nat.le_trans h (by decide)
theorem szl {n : Nat} (h : n < 100000) : n < sizeLine := Nat.lt_of_lt_of_le h (by decide)
theorem atI_in {α : Type} {xs : List α} {i : Int} (h0 : 0 ≤ i) (h : i < xs.length) : ∃ v, atI xs i = some v ∧ v ∈ xs ∧ xs[i.toNat]? = some v := by
  have h2 : i.toNat < xs.length := by omega
  have e : xs[i.toNat]? = some xs[i.toNat] := List.getElem?_eq_getElem h2
  refine ⟨xs[i.toNat], ?_, List.getElem_mem h2, e⟩
  have := atI_nat e
  rwa [Int.toNat_of_nonneg h0] at this
theorem ixN_in {n : Nat} {i : Int} (h0 : 0 ≤ i) (h : i < n) : ixN n i = some i.toNat := by
  unfold ixN
  rw [if_pos h0, if_pos h]

/-! ### rules whose written part is named (for comprehensions) -/
section
variable {X : Cx} {K : PySem.W.Frag}
theorem call_tupK (e : X.K = K := by rfl) : CallR X (.type "tuple") (fun xs H Q => ∃ p ys, xs = [.ref p] ∧ ((SqL K H p ys ∧ ∀ l, H l = none → Q (.ref l) (upd H l (.tup ys))) ∨ (SqT K H p ys ∧ Q (.ref p) H))) := by
  subst e
  exact call_tuple_of
theorem call_lenK (e : X.K = K := by rfl) : CallR X (.builtin "len") (fun xs H Q => ∃ x n, xs = [x] ∧ LenV K x H n ∧ Q (.int n) H) := by
  subst e
  exact call_len
theorem ix_tupK (e : X.K = K := by rfl) : IxR X (rIxT K) := by
  subst e
  exact ix_tup
theorem ix_listK (e : X.K = K := by rfl) : IxR X (rIxL K) := by
  subst e
  exact ix_list
end
end Rt
namespace Rt
open PySem PySem.Spec PyProof.Rows L2
/-! ### the drawn list: cells, the turn, the rests -/
structure Gd where
  d : Addr
  c : Addr
  r : Addr
  n : Nat
  m : Int
structure Dr (g : Gd) (t : Int) (H : Hp) : Prop where
  hd : H g.d = some (.lst [.ref g.c, .int t, .ref g.r, .int g.m])
  hc : ∃ cs : List Int, H g.c = some (.lst (cs.map V.int)) ∧ cs.length = g.n
  hr : ∃ rs : List Int, H g.r = some (.lst (rs.map V.int)) ∧ rs.length = g.n
  dc : g.d ≠ g.c
  dr : g.d ≠ g.r
  cr : g.c ≠ g.r
  n0 : 0 < g.n
  n63 : g.n ≤ 63
  t0 : 0 ≤ t
/-- so many draws may still come -/
def Fu (g : Gd) (B : Nat) (H : Hp) : Prop := ∃ t : Int, Dr g t H ∧ t + B ≤ 1000000
/-- all but the drawn list's own things is as it was -/
def Kp (g : Gd) (H H' : Hp) : Prop := ∀ p o, p ≠ g.d → p ≠ g.r → H p = some o → H' p = some o
/-- tuples are as they were -/
def Tk (H H' : Hp) : Prop := ∀ p xs, H p = some (.tup xs) → H' p = some (.tup xs)
structure Gd.Off (g : Gd) (p : Addr) : Prop where
  d : p ≠ g.d
  c : p ≠ g.c
  r : p ≠ g.r
theorem Kp.refl (g : Gd) (H : Hp) : Kp g H H := fun _ _ _ _ h => h
theorem Kp.trans {g : Gd} {H H1 H2 : Hp} (a : Kp g H H1) (b : Kp g H1 H2) : Kp g H H2 := fun p o h1 h2 h => b p o h1 h2 (a p o h1 h2 h)
theorem Kp.new {g : Gd} {H : Hp} {p : Addr} {o : HO} (h : H p = none) : Kp g H (upd H p o) := fun q u _ _ e => by
  rw [upd_ne (ne_of_none e h)]
  exact e
/-- what H does not know may change -/
theorem Kp.mut {g : Gd} {H H' : Hp} {p : Addr} {o : HO} (e : Kp g H H') (h : H p = none) : Kp g H (upd H' p o) := fun a u h1 h2 ha => by
  rw [upd_ne (ne_of_none ha h)]
  exact e a u h1 h2 ha
theorem Kp.off {g : Gd} {H H' : Hp} {p : Addr} {o : HO} (a : Kp g H H') (f : g.Off p) (h : H p = some o) : H' p = some o := a p o f.d f.r h
theorem Tk.refl (H : Hp) : Tk H H := fun _ _ h => h
theorem Tk.trans {H H1 H2 : Hp} (a : Tk H H1) (b : Tk H1 H2) : Tk H H2 := fun p xs h => b p xs (a p xs h)
theorem Tk.new {H : Hp} {p : Addr} {o : HO} (h : H p = none) : Tk H (upd H p o) := fun q u e => by
  rw [upd_ne (ne_of_none e h)]
  exact e
theorem Tk.lst {H : Hp} {p : Addr} {xs ys : List V} (h : H p = some (.lst xs)) : Tk H (upd H p (.lst ys)) := fun q u e => by
  rw [upd_ne (fun z => by rw [z, h] at e; cases e)]
  exact e
theorem Fu.mono {g : Gd} {B B' : Nat} {H : Hp} (h : Fu g B H) (e : B' ≤ B) : Fu g B' H := by
  obtain ⟨t, a, b⟩ := h
  exact ⟨t, a, by omega⟩
theorem Fu.tk {g : Gd} {B : Nat} {H H' : Hp} (h : Fu g B H) (k : Kp g H H') : Tk H H' := fun p xs e => by
  obtain ⟨t, a, b⟩ := h
  obtain ⟨rs, hr, _⟩ := a.hr
  exact k p _ (fun z => by rw [z, a.hd] at e; cases e) (fun z => by rw [z, hr] at e; cases e) e
theorem Fu.off {g : Gd} {B : Nat} {H : Hp} {p : Addr} (h : Fu g B H) (e : H p = none) : g.Off p := by
  obtain ⟨t, a, b⟩ := h
  obtain ⟨rs, hr, _⟩ := a.hr
  obtain ⟨cs, hc, _⟩ := a.hc
  exact ⟨fun z => (by rw [z, a.hd] at e; cases e), fun z => (by rw [z, hc] at e; cases e), fun z => (by rw [z, hr] at e; cases e)⟩
theorem Fu.upd {g : Gd} {B : Nat} {H : Hp} {p : Addr} {o : HO} (h : Fu g B H) (f : g.Off p) : Fu g B (L2.upd H p o) := by
  obtain ⟨t, a, b⟩ := h
  obtain ⟨cs, hc, ec⟩ := a.hc
  obtain ⟨rs, hr, er⟩ := a.hr
  refine ⟨t, ⟨?_, ⟨cs, ?_, ec⟩, ⟨rs, ?_, er⟩, a.dc, a.dr, a.cr, a.n0, a.n63, a.t0⟩, b⟩
  · rw [upd_ne f.d.symm]; exact a.hd
  · rw [upd_ne f.c.symm]; exact hc
  · rw [upd_ne f.r.symm]; exact hr
theorem Fu.new {g : Gd} {B : Nat} {H : Hp} {p : Addr} {o : HO} (h : Fu g B H) (e : H p = none) : Fu g B (L2.upd H p o) := h.upd (h.off e)
/-! ### comprehensions that draw -/
theorem lcR {g : Gd} {lo : Int} {n : Nat} {gt : TG} {tt : TT} {te : TE} {vs : List Nat} {σ : L2.St} {H1 : Hp} {D : Addr} {Qd : Hp → Prop} {B : Nat} (c : Nat) (Pt : Hp → V → Prop) (Pl : Nat → List V → Prop) (hD : H1 D = none) (hF : Fu g B H1) (hn : n ≤ 1000) (hB : n * c ≤ B)
    (mono : ∀ H H' x, Tk H H' → Pt H x → Pt H' x) (p0 : Pl 0 [])
    (hs : ∀ i H (B' : Nat), i < n → Fu g B' H → c ≤ B' → Kp g H1 H → ∀ (Qk : VK) (Qs : Hp → Prop),
      (∀ y H', Fu g (B' - c) H' → Kp g H H' → Pt H' y → (∀ acc, Pl i acc → Pl (i + 1) (acc ++ [y])) → Qk y H') → (∀ H', Fu g (B' - c) H' → Kp g H H' → (∀ acc, Pl i acc → Pl (i + 1) acc) → Qs H') →
      gt (.int (lo + i)) (wipe σ vs) H fun σ2 H2 => wipe σ2 vs = wipe σ vs ∧ tt σ2 H2 fun b H3 => if b = true then te σ2 H3 Qk else Qs H3)
    (hd : ∀ H acc, Fu g (B - n * c) H → Kp g H1 H → H D = some (.lst acc) → acc.length ≤ n → Pl n acc → (∀ x ∈ acc, Pt H x) → Qd H) :
    ∃ W : Nat → Nat → Hp → Prop, (∃ m, W 0 m (upd H1 D (.lst []))) ∧ ∀ i m H, W i m H →
      ((Itr lo n).stop i H ∧ Qd H) ∨ ((Itr lo n).go i H ∧ ∃ Nx : Hp → Prop, (∀ H', Nx H' → ∃ m', m' < m ∧ W (i + 1) m' H') ∧ ∀ x H', (Itr lo n).yld i H x H' → gt x (wipe σ vs) H' fun σ2 H2 => wipe σ2 vs = wipe σ vs ∧ tt σ2 H2 fun b H3 =>
        if b = true then te σ2 H3 fun y H4 => ∃ acc, H4 D = some (.lst acc) ∧ acc.length < sizeLine ∧ Nx (upd H4 D (.lst (acc ++ [y]))) else Nx H3) := by
  have oD := hF.off hD
  refine lc_range (Pv := fun i H => i ≤ n ∧ ∃ B', B' + i * c = B ∧ Fu g B' H ∧ Kp g H1 H ∧ ∃ acc, H D = some (.lst acc) ∧ acc.length ≤ i ∧ Pl i acc ∧ ∀ x ∈ acc, Pt H x) ⟨Nat.zero_le _, B, by omega, hF.upd oD, Kp.new hD, [], upd_same, Nat.le_refl _, p0, fun x h => nomatch h⟩ (fun i H hi p => ?_) (fun H p => ?_)
  · obtain ⟨_, B', eB, f, k, acc, eD, el, pl, al⟩ := p
    have h1 : (i + 1) * c ≤ n * c := Nat.mul_le_mul_right c hi
    have h2 : (i + 1) * c = i * c + c := Nat.succ_mul i c
    refine hs i H B' hi f (by omega) k _ _ (fun y H' f' k' py ply => ?_) (fun H' f' k' ply => ?_)
    · have eD' := k'.off oD eD
      refine ⟨acc, eD', szl (by omega), hi, B' - c, by omega, f'.upd oD, (k.trans k').mut hD, acc ++ [y], upd_same, by rw [List.length_append]; simp; omega, ply acc pl, fun x hx => ?_⟩
      rcases List.mem_append.mp hx with hx | hx
      · exact mono _ _ _ (Tk.lst eD') (mono _ _ _ (f.tk k') (al x hx))
      · have e : x = y := by simpa using hx
        subst e
        exact mono _ _ _ (Tk.lst eD') py
    · exact ⟨hi, B' - c, by omega, f', k.trans k', acc, k'.off oD eD, by omega, ply acc pl, fun x hx => mono _ _ _ (f.tk k') (al x hx)⟩
  · obtain ⟨_, B', eB, f, k, acc, eD, el, pl, al⟩ := p
    exact hd H acc (f.mono (by omega)) k eD el pl al
theorem lcT {K : PySem.W.Frag} {a : Addr} {xs : List V} {g : Gd} {gt : TG} {tt : TT} {te : TE} {vs : List Nat} {σ : L2.St} {H1 : Hp} {D : Addr} {Qd : Hp → Prop} {B : Nat} (c : Nat) (Pt : Hp → V → Prop) (Pl : Nat → List V → Prop) (hD : H1 D = none) (hF : Fu g B H1) (hn : xs.length ≤ 1000) (hB : xs.length * c ≤ B)
    (hx : H1 a = some (.tup xs)) (mono : ∀ H H' x, Tk H H' → Pt H x → Pt H' x) (p0 : Pl 0 [])
    (hs : ∀ i x H (B' : Nat), xs[i]? = some x → Fu g B' H → c ≤ B' → Kp g H1 H → ∀ (Qk : VK) (Qs : Hp → Prop),
      (∀ y H', Fu g (B' - c) H' → Kp g H H' → Pt H' y → (∀ acc, Pl i acc → Pl (i + 1) (acc ++ [y])) → Qk y H') → (∀ H', Fu g (B' - c) H' → Kp g H H' → (∀ acc, Pl i acc → Pl (i + 1) acc) → Qs H') →
      gt x (wipe σ vs) H fun σ2 H2 => wipe σ2 vs = wipe σ vs ∧ tt σ2 H2 fun b H3 => if b = true then te σ2 H3 Qk else Qs H3)
    (hd : ∀ H acc, Fu g (B - xs.length * c) H → Kp g H1 H → H D = some (.lst acc) → acc.length ≤ xs.length → Pl xs.length acc → (∀ x ∈ acc, Pt H x) → Qd H) :
    ∃ W : Nat → Nat → Hp → Prop, (∃ m, W 0 m (upd H1 D (.lst []))) ∧ ∀ i m H, W i m H →
      ((Itt K a).stop i H ∧ Qd H) ∨ ((Itt K a).go i H ∧ ∃ Nx : Hp → Prop, (∀ H', Nx H' → ∃ m', m' < m ∧ W (i + 1) m' H') ∧ ∀ x H', (Itt K a).yld i H x H' → gt x (wipe σ vs) H' fun σ2 H2 => wipe σ2 vs = wipe σ vs ∧ tt σ2 H2 fun b H3 =>
        if b = true then te σ2 H3 fun y H4 => ∃ acc, H4 D = some (.lst acc) ∧ acc.length < sizeLine ∧ Nx (upd H4 D (.lst (acc ++ [y]))) else Nx H3) := by
  have oD := hF.off hD
  refine lc_tup (xs := xs) (Pv := fun i H => i ≤ xs.length ∧ ∃ B', B' + i * c = B ∧ Fu g B' H ∧ Kp g H1 H ∧ ∃ acc, H D = some (.lst acc) ∧ acc.length ≤ i ∧ Pl i acc ∧ ∀ x ∈ acc, Pt H x) ⟨Nat.zero_le _, B, by omega, hF.upd oD, Kp.new hD, [], upd_same, Nat.le_refl _, p0, fun x h => nomatch h⟩ (fun i H _ p => ?_) (fun i x H hi p => ?_) (fun H p => ?_)
  · obtain ⟨_, B', eB, f, k, acc, eD, el, pl, al⟩ := p
    exact SqT.of (hF.tk k a xs hx)
  · obtain ⟨_, B', eB, f, k, acc, eD, el, pl, al⟩ := p
    have hi' : i < xs.length := (List.getElem?_eq_some_iff.mp hi).1
    have h1 : (i + 1) * c ≤ xs.length * c := Nat.mul_le_mul_right c hi'
    have h2 : (i + 1) * c = i * c + c := Nat.succ_mul i c
    refine hs i x H B' hi f (by omega) k _ _ (fun y H' f' k' py ply => ?_) (fun H' f' k' ply => ?_)
    · have eD' := k'.off oD eD
      refine ⟨acc, eD', szl (by omega), hi', B' - c, by omega, f'.upd oD, (k.trans k').mut hD, acc ++ [y], upd_same, by rw [List.length_append]; simp; omega, ply acc pl, fun x hx => ?_⟩
      rcases List.mem_append.mp hx with hx | hx
      · exact mono _ _ _ (Tk.lst eD') (mono _ _ _ (f.tk k') (al x hx))
      · have e : x = y := by simpa using hx
        subst e
        exact mono _ _ _ (Tk.lst eD') py
    · exact ⟨hi', B' - c, by omega, f', k.trans k', acc, k'.off oD eD, by omega, ply acc pl, fun x hx => mono _ _ _ (f.tk k') (al x hx)⟩
  · obtain ⟨_, B', eB, f, k, acc, eD, el, pl, al⟩ := p
    exact hd H acc (f.mono (by omega)) k eD el pl al
end Rt
namespace Rt
open PySem PySem.Spec PyProof.Rows L2
def topS (i : Nat) : Stmt := PySem.Challenge.pw_rightage_k28_wishes_judged.main.body.getD i (.Pass ⟨0, 0, 0, 0⟩)
abbrev s_is_number : Stmt := topS 12
theorem sc_is_number : FnScope ["thing"] ["thing"] (defScope s_is_number) := ⟨rfl, rfl, rfl, by decide +kernel, rfl, by decide +kernel, by decide +kernel⟩
abbrev s_is_number_from : Stmt := topS 13
theorem sc_is_number_from : FnScope ["thing", "low", "high"] ["thing", "low", "high"] (defScope s_is_number_from) := ⟨rfl, rfl, rfl, by decide +kernel, rfl, by decide +kernel, by decide +kernel⟩
abbrev s_is_row : Stmt := topS 14
theorem sc_is_row : FnScope ["thing", "fewest", "most"] ["thing", "fewest", "most"] (defScope s_is_row) := ⟨rfl, rfl, rfl, by decide +kernel, rfl, by decide +kernel, by decide +kernel⟩
abbrev s_place_of : Stmt := topS 16
theorem sc_place_of : FnScope ["world", "number"] ["world", "number"] (defScope s_place_of) := ⟨rfl, rfl, rfl, by decide +kernel, rfl, by decide +kernel, by decide +kernel⟩
abbrev s_brings : Stmt := topS 17
theorem sc_brings : FnScope ["world", "source", "moment", "kind", "age", "place", "since", "many"] ["world", "source", "moment"] (defScope s_brings) := ⟨rfl, rfl, rfl, by decide +kernel, rfl, by decide +kernel, by decide +kernel⟩
abbrev s_opens : Stmt := topS 18
theorem sc_opens : FnScope ["world", "way", "moment", "kind", "parts", "keeps", "hours", "wait"] ["world", "way", "moment"] (defScope s_opens) := ⟨rfl, rfl, rfl, by decide +kernel, rfl, by decide +kernel, by decide +kernel⟩
abbrev s_first_of : Stmt := topS 19
theorem sc_first_of : FnScope ["world", "source", "kind", "age", "place", "since", "many"] ["world", "source"] (defScope s_first_of) := ⟨rfl, rfl, rfl, by decide +kernel, rfl, by decide +kernel, by decide +kernel⟩
abbrev s_bears : Stmt := topS 20
theorem sc_bears : FnScope ["world", "way", "moment", "origins", "kind", "parts", "keeps", "hours", "wait", "origin"] ["world", "way", "moment", "origins"] (defScope s_bears) := ⟨rfl, rfl, rfl, by decide +kernel, rfl, by decide +kernel, by decide +kernel⟩
abbrev s_is_table : Stmt := topS 22
theorem sc_is_table : FnScope ["world", "thing", "span", "kinds", "sources", "ways", "rows", "place", "row"] ["world", "thing"] (defScope s_is_table) := ⟨rfl, rfl, rfl, by decide +kernel, rfl, by decide +kernel, by decide +kernel⟩
abbrev s_is_age_row : Stmt := topS 23
theorem sc_is_age_row : FnScope ["world", "place", "row", "cell", "ahead", "behind"] ["world", "place", "row"] (defScope s_is_age_row) := ⟨rfl, rfl, rfl, by decide +kernel, rfl, by decide +kernel, by decide +kernel⟩
abbrev s_is_cell : Stmt := topS 24
theorem sc_is_cell : FnScope ["world", "place", "cell"] ["world", "place", "cell"] (defScope s_is_cell) := ⟨rfl, rfl, rfl, by decide +kernel, rfl, by decide +kernel, by decide +kernel⟩
abbrev s_is_above : Stmt := topS 25
theorem sc_is_above : FnScope ["one", "other"] ["one", "other"] (defScope s_is_above) := ⟨rfl, rfl, rfl, by decide +kernel, rfl, by decide +kernel, by decide +kernel⟩
abbrev s_has : Stmt := topS 26
theorem sc_has : FnScope ["world", "table", "kind", "origin", "age", "cell"] ["world", "table", "kind", "origin", "age"] (defScope s_has) := ⟨rfl, rfl, rfl, by decide +kernel, rfl, by decide +kernel, by decide +kernel⟩
abbrev s_first_there : Stmt := topS 27
theorem sc_first_there : FnScope ["world", "table", "kind", "place", "age", "cell"] ["world", "table", "kind", "place", "age"] (defScope s_first_there) := ⟨rfl, rfl, rfl, by decide +kernel, rfl, by decide +kernel, by decide +kernel⟩
abbrev s_is_brought_leak : Stmt := topS 29
theorem sc_is_brought_leak : FnScope ["world", "table", "source", "kind", "age", "place", "since", "many"] ["world", "table", "source"] (defScope s_is_brought_leak) := ⟨rfl, rfl, rfl, by decide +kernel, rfl, by decide +kernel, by decide +kernel⟩
abbrev s_is_made_leak : Stmt := topS 30
theorem sc_is_made_leak : FnScope ["world", "table", "way", "place", "ages", "kind", "parts", "keeps", "hours", "wait", "moments", "moment", "origin", "born", "part", "age"] ["world", "table", "way", "place", "ages"] (defScope s_is_made_leak) := ⟨rfl, rfl, rfl, by decide +kernel, rfl, by decide +kernel, by decide +kernel⟩
abbrev s_leak : Stmt := topS 31
theorem sc_leak : FnScope ["world", "table", "source", "k", "way", "place", "ages"] ["world", "table"] (defScope s_leak) := ⟨rfl, rfl, rfl, by decide +kernel, rfl, by decide +kernel, by decide +kernel⟩
abbrev s_leaking_ages : Stmt := topS 32
theorem sc_leaking_ages : FnScope ["world", "table", "way", "place", "kind", "parts", "keeps", "hours", "wait", "options", "j", "rows", "moment", "age", "ages", "part"] ["world", "table", "way", "place"] (defScope s_leaking_ages) := ⟨rfl, rfl, rfl, by decide +kernel, rfl, by decide +kernel, by decide +kernel⟩
abbrev s_part_options : Stmt := topS 33
theorem sc_part_options : FnScope ["world", "table", "part", "place", "kind", "least", "greatest", "firsts", "age", "moment"] ["world", "table", "part", "place"] (defScope s_part_options) := ⟨rfl, rfl, rfl, by decide +kernel, rfl, by decide +kernel, by decide +kernel⟩
abbrev s_ages_beside : Stmt := topS 34
theorem sc_ages_beside : FnScope ["keeps", "options", "handing", "age", "told", "j", "rows", "beside", "row"] ["keeps", "options", "handing", "age"] (defScope s_ages_beside) := ⟨rfl, rfl, rfl, by decide +kernel, rfl, by decide +kernel, by decide +kernel⟩
abbrev s_is_shut : Stmt := topS 35
theorem sc_is_shut : FnScope ["world", "thing"] ["world", "thing"] (defScope s_is_shut) := ⟨rfl, rfl, rfl, by decide +kernel, rfl, by decide +kernel, by decide +kernel⟩
abbrev s_at_the_beginning : Stmt := topS 37
theorem sc_at_the_beginning : FnScope ["world", "nothing", "kind", "wait"] ["world"] (defScope s_at_the_beginning) := ⟨rfl, rfl, rfl, by decide +kernel, rfl, by decide +kernel, by decide +kernel⟩
abbrev s_stepped : Stmt := topS 38
theorem sc_stepped : FnScope ["world", "moment", "state", "missed", "ages", "coming", "grown", "born", "there", "fresh", "bits", "due", "old", "new"] ["world", "moment", "state", "missed"] (defScope s_stepped) := ⟨rfl, rfl, rfl, by decide +kernel, rfl, by decide +kernel, by decide +kernel⟩
abbrev s_brought : Stmt := topS 39
theorem sc_brought : FnScope ["world", "moment", "missed", "kind", "told", "k", "age", "place", "since", "many"] ["world", "moment", "missed"] (defScope s_brought) := ⟨rfl, rfl, rfl, by decide +kernel, rfl, by decide +kernel, by decide +kernel⟩
abbrev s_come_behind : Stmt := topS 40
theorem sc_come_behind : FnScope ["world", "moment", "there", "coming", "kind", "told", "k", "parts", "keeps", "hours", "wait", "row"] ["world", "moment", "there", "coming"] (defScope s_come_behind) := ⟨rfl, rfl, rfl, by decide +kernel, rfl, by decide +kernel, by decide +kernel⟩
abbrev s_made_bits : Stmt := topS 41
theorem sc_made_bits : FnScope ["world", "parts", "keeps", "there", "found", "joint", "bits", "kind", "least", "greatest"] ["world", "parts", "keeps", "there"] (defScope s_made_bits) := ⟨rfl, rfl, rfl, by decide +kernel, rfl, by decide +kernel, by decide +kernel⟩
abbrev s_bits_from : Stmt := topS 42
theorem sc_bits_from : FnScope ["least", "greatest"] ["least", "greatest"] (defScope s_bits_from) := ⟨rfl, rfl, rfl, by decide +kernel, rfl, by decide +kernel, by decide +kernel⟩
abbrev s_lowest_in : Stmt := topS 43
theorem sc_lowest_in : FnScope ["bits"] ["bits"] (defScope s_lowest_in) := ⟨rfl, rfl, rfl, by decide +kernel, rfl, by decide +kernel, by decide +kernel⟩
abbrev s_highest_in : Stmt := topS 44
theorem sc_highest_in : FnScope ["bits"] ["bits"] (defScope s_highest_in) := ⟨rfl, rfl, rfl, by decide +kernel, rfl, by decide +kernel, by decide +kernel⟩
abbrev s_ages_in : Stmt := topS 45
theorem sc_ages_in : FnScope ["bits", "age"] ["bits"] (defScope s_ages_in) := ⟨rfl, rfl, rfl, by decide +kernel, rfl, by decide +kernel, by decide +kernel⟩
abbrev s_table : Stmt := topS 47
theorem sc_table : FnScope ["world", "cells", "seen", "beginnings", "state", "moment", "quiet", "fresh", "news", "kind", "place", "source", "rows", "row"] ["world"] (defScope s_table) := ⟨rfl, rfl, rfl, by decide +kernel, rfl, by decide +kernel, by decide +kernel⟩
abbrev s_skipped : Stmt := topS 48
theorem sc_skipped : FnScope ["world", "moment", "beginnings", "coming", "first"] ["world", "moment", "beginnings"] (defScope s_skipped) := ⟨rfl, rfl, rfl, by decide +kernel, rfl, by decide +kernel, by decide +kernel⟩
abbrev s_entered : Stmt := topS 49
theorem sc_entered : FnScope ["world", "cells", "seen", "moment", "there", "news", "k", "bits", "age"] ["world", "cells", "seen", "moment", "there"] (defScope s_entered) := ⟨rfl, rfl, rfl, by decide +kernel, rfl, by decide +kernel, by decide +kernel⟩
abbrev s_followed : Stmt := topS 51
theorem sc_followed : FnScope ["world", "thing", "told", "k", "row", "word"] ["world", "thing"] (defScope s_followed) := ⟨rfl, rfl, rfl, by decide +kernel, rfl, by decide +kernel, by decide +kernel⟩
abbrev s_row_word : Stmt := topS 52
theorem sc_row_word : FnScope ["world", "told", "row", "word", "way", "moment", "parts", "windows", "window", "part"] ["world", "told", "row"] (defScope s_row_word) := ⟨rfl, rfl, rfl, by decide +kernel, rfl, by decide +kernel, by decide +kernel⟩
abbrev s_is_brought_row : Stmt := topS 53
theorem sc_is_brought_row : FnScope ["world", "row"] ["world", "row"] (defScope s_is_brought_row) := ⟨rfl, rfl, rfl, by decide +kernel, rfl, by decide +kernel, by decide +kernel⟩
abbrev s_is_made_row : Stmt := topS 54
theorem sc_is_made_row : FnScope ["world", "ahead", "row", "word", "way", "moment", "parts", "many", "part"] ["world", "ahead", "row"] (defScope s_is_made_row) := ⟨rfl, rfl, rfl, by decide +kernel, rfl, by decide +kernel, by decide +kernel⟩
abbrev s_fits : Stmt := topS 55
theorem sc_fits : FnScope ["window", "thing", "moment", "kind", "least", "greatest", "own_kind", "origin", "born"] ["window", "thing", "moment"] (defScope s_fits) := ⟨rfl, rfl, rfl, by decide +kernel, rfl, by decide +kernel, by decide +kernel⟩
abbrev s_thing_of : Stmt := topS 56
theorem sc_thing_of : FnScope ["world", "told", "row", "kind", "age", "place", "since", "many", "word", "way", "moment", "parts", "origin", "born", "part"] ["world", "told", "row"] (defScope s_thing_of) := ⟨rfl, rfl, rfl, by decide +kernel, rfl, by decide +kernel, by decide +kernel⟩
abbrev s_paper_for : Stmt := topS 58
theorem sc_paper_for : FnScope ["world", "least", "wanted", "targets", "makings", "order", "numbers", "paper", "kind", "origin", "age", "k", "thing", "target"] ["world", "least", "wanted"] (defScope s_paper_for) := ⟨rfl, rfl, rfl, by decide +kernel, rfl, by decide +kernel, by decide +kernel⟩
abbrev s_earliest : Stmt := topS 59
theorem sc_earliest : FnScope ["world", "least", "kind", "origin", "age", "row", "born_at"] ["world", "least", "kind", "origin", "age"] (defScope s_earliest) := ⟨rfl, rfl, rfl, by decide +kernel, rfl, by decide +kernel, by decide +kernel⟩
abbrev s_makings_behind : Stmt := topS 60
theorem sc_makings_behind : FnScope ["world", "least", "targets", "told", "left", "thing"] ["world", "least", "targets"] (defScope s_makings_behind) := ⟨rfl, rfl, rfl, by decide +kernel, rfl, by decide +kernel, by decide +kernel⟩
abbrev s_making_of : Stmt := topS 61
theorem sc_making_of : FnScope ["world", "least", "thing", "born", "kind", "origin", "first", "row", "parts", "later", "led", "when", "part", "start"] ["world", "least", "thing"] (defScope s_making_of) := ⟨rfl, rfl, rfl, by decide +kernel, rfl, by decide +kernel, by decide +kernel⟩
abbrev s_first_making : Stmt := topS 62
theorem sc_first_making : FnScope ["world", "least", "kind", "origin", "age", "k", "source", "fitting", "way"] ["world", "least", "kind", "origin", "age"] (defScope s_first_making) := ⟨rfl, rfl, rfl, by decide +kernel, rfl, by decide +kernel, by decide +kernel⟩
abbrev s_makes : Stmt := topS 63
theorem sc_makes : FnScope ["world", "least", "way", "kind", "origin", "age", "moment"] ["world", "least", "way", "kind", "origin", "age"] (defScope s_makes) := ⟨rfl, rfl, rfl, by decide +kernel, rfl, by decide +kernel, by decide +kernel⟩
abbrev s_made_from : Stmt := topS 64
theorem sc_made_from : FnScope ["world", "least", "way", "origin", "age", "moment", "ages", "parts", "part", "old"] ["world", "least", "way", "origin", "age"] (defScope s_made_from) := ⟨rfl, rfl, rfl, by decide +kernel, rfl, by decide +kernel, by decide +kernel⟩
abbrev s_handing_ages : Stmt := topS 65
theorem sc_handing_ages : FnScope ["world", "least", "way", "moment", "age", "kind", "parts", "keeps", "hours", "wait", "told", "part", "there", "beside", "old"] ["world", "least", "way", "moment", "age"] (defScope s_handing_ages) := ⟨rfl, rfl, rfl, by decide +kernel, rfl, by decide +kernel, by decide +kernel⟩
abbrev s_ages_of_part : Stmt := topS 66
theorem sc_ages_of_part : FnScope ["world", "least", "part", "moment", "kind", "youngest", "oldest", "age"] ["world", "least", "part", "moment"] (defScope s_ages_of_part) := ⟨rfl, rfl, rfl, by decide +kernel, rfl, by decide +kernel, by decide +kernel⟩
abbrev s_row_with : Stmt := topS 67
theorem sc_row_with : FnScope ["making", "numbers", "row", "parts", "part"] ["making", "numbers"] (defScope s_row_with) := ⟨rfl, rfl, rfl, by decide +kernel, rfl, by decide +kernel, by decide +kernel⟩
abbrev s_wishfault : Stmt := topS 69
theorem sc_wishfault : FnScope ["world", "thing", "k", "item", "word"] ["world", "thing"] (defScope s_wishfault) := ⟨rfl, rfl, rfl, by decide +kernel, rfl, by decide +kernel, by decide +kernel⟩
abbrev s_item_word : Stmt := topS 70
theorem sc_item_word : FnScope ["world", "item", "latest", "kind", "least", "greatest"] ["world", "item", "latest"] (defScope s_item_word) := ⟨rfl, rfl, rfl, by decide +kernel, rfl, by decide +kernel, by decide +kernel⟩
abbrev s_refuse_no_wish : Stmt := topS 71
theorem sc_refuse_no_wish : FnScope ["world", "thing", "fault", "item", "word"] ["world", "thing"] (defScope s_refuse_no_wish) := ⟨rfl, rfl, rfl, by decide +kernel, rfl, by decide +kernel, by decide +kernel⟩
abbrev s_comes : Stmt := topS 72
theorem sc_comes : FnScope ["world", "wish", "moment", "least", "item"] ["world", "wish", "moment"] (defScope s_comes) := ⟨rfl, rfl, rfl, by decide +kernel, rfl, by decide +kernel, by decide +kernel⟩
abbrev s_age_there : Stmt := topS 73
theorem sc_age_there : FnScope ["world", "table", "item", "moment", "kind", "least", "greatest", "ages", "age"] ["world", "table", "item", "moment"] (defScope s_age_there) := ⟨rfl, rfl, rfl, by decide +kernel, rfl, by decide +kernel, by decide +kernel⟩
abbrev s_first_wish : Stmt := topS 74
theorem sc_first_wish : FnScope ["world", "wish", "firsts", "first"] ["world", "wish"] (defScope s_first_wish) := ⟨rfl, rfl, rfl, by decide +kernel, rfl, by decide +kernel, by decide +kernel⟩
abbrev s_wish_places : Stmt := topS 75
theorem sc_wish_places : FnScope ["world", "wish", "place", "first"] ["world", "wish"] (defScope s_wish_places) := ⟨rfl, rfl, rfl, by decide +kernel, rfl, by decide +kernel, by decide +kernel⟩
abbrev s_wish_firsts : Stmt := topS 76
theorem sc_wish_firsts : FnScope ["world", "wish", "least", "told", "place", "firsts", "item"] ["world", "wish"] (defScope s_wish_firsts) := ⟨rfl, rfl, rfl, by decide +kernel, rfl, by decide +kernel, by decide +kernel⟩
abbrev s_item_first : Stmt := topS 77
theorem sc_item_first : FnScope ["world", "table", "item", "place", "kind", "least", "greatest", "firsts", "age", "first"] ["world", "table", "item", "place"] (defScope s_item_first) := ⟨rfl, rfl, rfl, by decide +kernel, rfl, by decide +kernel, by decide +kernel⟩
abbrev s_wish_verdict : Stmt := topS 78
theorem sc_wish_verdict : FnScope ["world", "wish", "moment", "least", "ages", "paper", "numbers", "item", "age"] ["world", "wish", "moment"] (defScope s_wish_verdict) := ⟨rfl, rfl, rfl, by decide +kernel, rfl, by decide +kernel, by decide +kernel⟩
abbrev s_wish_holds : Stmt := topS 79
theorem sc_wish_holds : FnScope ["world", "wish", "moment", "thing"] ["world", "wish", "moment", "thing"] (defScope s_wish_holds) := ⟨rfl, rfl, rfl, by decide +kernel, rfl, by decide +kernel, by decide +kernel⟩
abbrev s_is_fulfilled : Stmt := topS 80
theorem sc_is_fulfilled : FnScope ["world", "wish", "moment", "paper", "numbers", "fault", "told", "item", "number"] ["world", "wish", "moment", "paper", "numbers"] (defScope s_is_fulfilled) := ⟨rfl, rfl, rfl, by decide +kernel, rfl, by decide +kernel, by decide +kernel⟩
abbrev s_is_barred : Stmt := topS 81
theorem sc_is_barred : FnScope ["world", "wish", "moment", "table", "item"] ["world", "wish", "moment", "table"] (defScope s_is_barred) := ⟨rfl, rfl, rfl, by decide +kernel, rfl, by decide +kernel, by decide +kernel⟩
abbrev s_law_draws : Stmt := topS 83
theorem sc_law_draws : FnScope ["_law_script", "_law_may", "_law_cells", "_law_cell"] ["_law_script", "_law_may"] (defScope s_law_draws) := ⟨rfl, rfl, rfl, by decide +kernel, rfl, by decide +kernel, by decide +kernel⟩
abbrev s_law_next : Stmt := topS 84
theorem sc_law_next : FnScope ["_law_drawn", "_law_many", "_law_cells", "_law_turns", "_law_rests", "_law_may", "_law_at", "_law_digit", "_law_mixed", "_law_more"] ["_law_drawn", "_law_many"] (defScope s_law_next) := ⟨rfl, rfl, rfl, by decide +kernel, rfl, by decide +kernel, by decide +kernel⟩
abbrev s_law_alike : Stmt := topS 85
theorem sc_law_alike : FnScope ["_law_one", "_law_other", "_law_k"] ["_law_one", "_law_other"] (defScope s_law_alike) := ⟨rfl, rfl, rfl, by decide +kernel, rfl, by decide +kernel, by decide +kernel⟩
abbrev s_law_whole : Stmt := topS 86
theorem sc_law_whole : FnScope ["_law_thing"] ["_law_thing"] (defScope s_law_whole) := ⟨rfl, rfl, rfl, by decide +kernel, rfl, by decide +kernel, by decide +kernel⟩
abbrev s_law_spoilt : Stmt := topS 87
theorem sc_law_spoilt : FnScope ["_law_drawn", "_law_thing", "_law_at", "_law_some"] ["_law_drawn", "_law_thing"] (defScope s_law_spoilt) := ⟨rfl, rfl, rfl, by decide +kernel, rfl, by decide +kernel, by decide +kernel⟩
abbrev s_law_names : Stmt := topS 88
theorem sc_law_names : FnScope ["_law_drawn", "_law_many", "_law_left", "_law_stem", "_law_at", "_law_k"] ["_law_drawn", "_law_many"] (defScope s_law_names) := ⟨rfl, rfl, rfl, by decide +kernel, rfl, by decide +kernel, by decide +kernel⟩
abbrev s_law_part : Stmt := topS 89
theorem sc_law_part : FnScope ["_law_drawn", "_law_kinds", "_law_least", "_law_wide"] ["_law_drawn", "_law_kinds"] (defScope s_law_part) := ⟨rfl, rfl, rfl, by decide +kernel, rfl, by decide +kernel, by decide +kernel⟩
abbrev s_law_way : Stmt := topS 90
theorem sc_law_way : FnScope ["_law_drawn", "_law_size", "_law_kinds", "_law_parts", "_law_hours", "_law_keeps", "_law_k", "_law_place"] ["_law_drawn", "_law_size", "_law_kinds"] (defScope s_law_way) := ⟨rfl, rfl, rfl, by decide +kernel, rfl, by decide +kernel, by decide +kernel⟩
abbrev s_law_source : Stmt := topS 91
theorem sc_law_source : FnScope ["_law_drawn", "_law_size", "_law_kinds", "_law_late", "_law_age", "_law_since"] ["_law_drawn", "_law_size", "_law_kinds", "_law_late"] (defScope s_law_source) := ⟨rfl, rfl, rfl, by decide +kernel, rfl, by decide +kernel, by decide +kernel⟩
abbrev s_law_world : Stmt := topS 92
theorem sc_law_world : FnScope ["_law_drawn", "_law_late", "_law_size", "_law_kinds", "_law_many", "_law_sources", "_law_ways", "_law_k"] ["_law_drawn", "_law_late"] (defScope s_law_world) := ⟨rfl, rfl, rfl, by decide +kernel, rfl, by decide +kernel, by decide +kernel⟩
abbrev s_law_item : Stmt := topS 93
theorem sc_law_item : FnScope ["_law_drawn", "_law_kinds", "_law_least", "_law_wide"] ["_law_drawn", "_law_kinds"] (defScope s_law_item) := ⟨rfl, rfl, rfl, by decide +kernel, rfl, by decide +kernel, by decide +kernel⟩
abbrev s_law_wish : Stmt := topS 94
theorem sc_law_wish : FnScope ["_law_drawn", "_law_world_here", "_law_k"] ["_law_drawn", "_law_world_here"] (defScope s_law_wish) := ⟨rfl, rfl, rfl, by decide +kernel, rfl, by decide +kernel, by decide +kernel⟩
abbrev s_law_from : Stmt := topS 95
theorem sc_law_from : FnScope ["_law_thing", "_law_low", "_law_high"] ["_law_thing", "_law_low", "_law_high"] (defScope s_law_from) := ⟨rfl, rfl, rfl, by decide +kernel, rfl, by decide +kernel, by decide +kernel⟩
abbrev s_law_look : Stmt := topS 96
theorem sc_law_look : FnScope ["_law_kinds", "_law_thing", "_law_at", "_law_item_here"] ["_law_kinds", "_law_thing"] (defScope s_law_look) := ⟨rfl, rfl, rfl, by decide +kernel, rfl, by decide +kernel, by decide +kernel⟩
abbrev s_law_refused : Stmt := topS 97
theorem sc_law_refused : FnScope ["_law_way_here", "_law_world_here", "_law_wish_here", "_law_told", "e"] ["_law_way_here", "_law_world_here", "_law_wish_here"] (defScope s_law_refused) := ⟨rfl, rfl, rfl, by decide +kernel, rfl, by decide +kernel, by decide +kernel⟩
abbrev s_law : Stmt := topS 98
theorem sc_law : FnScope ["_law_script", "_law_drawn", "_law_world_here", "_law_wish_here", "_law_name", "_law_some", "_law_turn", "_law_other", "_law_stayed", "_law_due"] ["_law_script"] (defScope s_law) := ⟨rfl, rfl, rfl, by decide +kernel, rfl, by decide +kernel, by decide +kernel⟩
section
variable {P : Program} {w : World} {K : PySem.W.Frag} {mg : Str → Option Value} {base : Heap}

/-! ### _law_next -/
def spNext : Sp := fun vs H Q _ => ∃ (g : Gd) (B : Nat) (b : Int), vs = [.ref g.d, .int b] ∧ Fu g B H ∧ 1 ≤ B ∧ 0 < b ∧ b < 2 ^ 60 ∧
  ∀ v H', 0 ≤ v → v < b → Fu g (B - 1) H' → Kp g H H' → Q (.int v) H'
theorem ok_next {f : Addr} {fd : FuncData} {k : Nat} (F : Fun K "_law_next" "_law_next" s_law_next f fd) (m_len : mg "len" = none) : FnOk P w K mg base CX0 (k + 1) f fd ["_law_drawn", "_law_many"] spNext := by
  refine F.ok sc_law_next (fun vs H Q E h => ?_) (fun cdv A outer s H vs Q E hr h => ?_)
  · obtain ⟨g, B, b, rfl, _⟩ := h
    rfl
  · obtain ⟨g, B, b, rfl, ⟨t, D, hB⟩, hB1, hb0, hb, q⟩ := h
    obtain ⟨cs, hc, ec⟩ := D.hc
    obtain ⟨rs, hrr, er⟩ := D.hr
    have n0 := D.n0
    have n63 := D.n63
    have t0 := D.t0
    refine ⟨_, (pss_cons (ps_asg (pv 0) (pg_unl rfl (pgs_cons (pg_name (i := 2) sc_law_next.nd rfl (.inl rfl)) (pgs_cons (pg_name (i := 3) sc_law_next.nd rfl (.inl rfl)) (pgs_cons (pg_name (i := 4) sc_law_next.nd rfl (.inl rfl)) (pgs_cons (pg_name (i := 5) sc_law_next.nd rfl (.inl rfl)) pgs_nil))))))
  (pss_cons (ps_set (i := 6) sc_law_next.nd rfl (.inl rfl) (pe_op op_modL (pv 3) (pe_callB call_len (by rfl) m_len (by decide +kernel) (pa_cons (pv 2) pa_nil))))
  (pss_cons (ps_asg (pe_op op_addL (pv 3) pe_int) (pg_sub (pv 0) pe_int set_listL))
  (pss_cons (ps_if (pt_cmpR op_gt (pe_ix ix_list (pv 4) (pv 6) (fun _ _ => rfl)) pe_int (nomark _))
    (pss_cons (ps_set (i := 7) sc_law_next.nd rfl (.inl rfl) (pe_op op_modL (pe_ix ix_list (pv 4) (pv 6) (fun _ _ => rfl)) (pv 1)))
  (pss_cons (ps_asg (pe_op op_divL (pe_ix ix_list (pv 4) (pv 6) (fun _ _ => rfl)) (pv 1)) (pg_sub (pv 4) (pv 6) set_listL))
  (pss_one (ps_ret (pv 7)))))
    pss_nil)
  (pss_cons (ps_set (i := 8) sc_law_next.nd rfl (.inl rfl) (pe_op op_modL (pe_op op_powL (pe_op op_addL (pe_op op_addL (pe_op op_modL (pe_ix ix_list (pv 2) (pv 6) (fun _ _ => rfl)) pe_int) (pe_op op_mulL pe_int (pv 3))) pe_int) pe_int) pe_int))
  (pss_cons (ps_set (i := 9) sc_law_next.nd rfl (.inl rfl) (pe_op op_modL (pe_op op_powL (pe_op op_addL (pe_op op_addL (pv 8) (pe_op op_mulL (pe_op op_mulL pe_int (pv 3)) (pv 3))) pe_int) pe_int) pe_int))
  (pss_one (ps_ret (pe_op op_modL (pe_op op_modL (pe_op op_addL (pe_op op_mulL (pv 9) pe_int) (pv 8)) pe_int) (pv 1)))))))))), ?_⟩
    -- cells, turn, rests = drawn
    refine ⟨.ref g.d, rfl, g.d, _, rfl, SqL.of D.hd, rfl, .ref g.c, _, rfl, .int t, _, rfl, .ref g.r, _, rfl, .int g.m, _, rfl, rfl, ?_⟩
    -- spot = turn % len(cells)
    refine ⟨.int t, rfl, .ref g.c, rfl, .ref g.c, g.n, rfl, .inl ⟨_, SqL.of hc, by rw [List.length_map, ec]⟩, t, (g.n : Int), rfl, rfl, by omega, fun sp esp hs0 hs1 => ?_⟩
    -- drawn[1] = turn + 1
    refine ⟨.int t, rfl, t, 1, rfl, rfl, fun t1 et1 => ⟨.ref g.d, rfl, g.d, _, 1, 1, rfl, rfl, D.hd, rfl, fun H1 eH1 => ?_⟩⟩
    have eH1 : H1 = upd H g.d (.lst [.ref g.c, .int t1, .ref g.r, .int g.m]) := eH1
    have D1 : Dr g t1 H1 := by
      subst eH1
      exact ⟨upd_same, ⟨cs, by rw [upd_ne D.dc.symm]; exact hc, ec⟩, ⟨rs, by rw [upd_ne D.dr.symm]; exact hrr, er⟩, D.dc, D.dr, D.cr, D.n0, D.n63, by omega⟩
    have K1 : Kp g H H1 := fun p o h1 h2 e => by
      subst eH1
      rw [upd_ne h1]
      exact e
    have hc1 : H1 g.c = some (.lst (cs.map V.int)) := by subst eH1; rw [upd_ne D.dc.symm]; exact hc
    have hr1 : H1 g.r = some (.lst (rs.map V.int)) := by subst eH1; rw [upd_ne D.dr.symm]; exact hrr
    -- if rests[spot] > 0
    obtain ⟨rv, hrv, rmem, _⟩ := atI_in (xs := rs.map V.int) (i := sp) hs0 (by rw [List.length_map, er]; exact hs1)
    obtain ⟨x, xm, rfl⟩ := List.mem_map.mp rmem
    obtain ⟨cv, hcv, cmem, _⟩ := atI_in (xs := cs.map V.int) (i := sp) hs0 (by rw [List.length_map, ec]; exact hs1)
    obtain ⟨y, ym, rfl⟩ := List.mem_map.mp cmem
    refine ⟨.ref g.r, rfl, .int sp, rfl, g.r, _, sp, _, rfl, rfl, SqL.of hr1, hrv, x, 0, rfl, rfl, _, rfl, ite2 (fun e => ?_) (fun e => ?_)⟩
    · -- a digit of a great cell
      refine ⟨.ref g.r, rfl, .int sp, rfl, g.r, _, sp, _, rfl, rfl, SqL.of hr1, hrv, .int b, rfl, x, b, rfl, rfl, hb0, fun dg edg hd0 hd1 => ?_⟩
      refine ⟨.ref g.r, rfl, .int sp, rfl, g.r, _, sp, _, rfl, rfl, SqL.of hr1, hrv, .int b, rfl, x, b, rfl, rfl, wide_div (b := 60) hb0 (by omega) (by decide) (by decide), fun z ez => ?_⟩
      refine ⟨.ref g.r, rfl, .int sp, rfl, g.r, _, sp, sp.toNat, rfl, rfl, hr1, ixN_in hs0 (by rw [List.length_map, er]; exact hs1), fun H2 eH2 => ?_⟩
      refine ⟨.int dg, rfl, ?_⟩
      have em : (rs.map V.int).set sp.toNat (.int z) = (rs.set sp.toNat z).map V.int := by rw [List.map_set]
      rw [em] at eH2
      subst eH2
      refine q _ _ hd0 hd1 ⟨t1, ⟨?_, ⟨cs, ?_, ec⟩, ⟨_, upd_same, by rw [List.length_set, er]⟩, D.dc, D.dr, D.cr, D.n0, D.n63, by omega⟩, by omega⟩ (fun p o h1 h2 e => ?_)
      · rw [upd_ne D.dr]; exact D1.hd
      · rw [upd_ne D.cr]; exact hc1
      · rw [upd_ne h2]; exact K1 p o h1 h2 e
    · -- a mixed one
      have ht : t ≤ 1000000 := by omega
      have htt0 : 0 ≤ 6007 * t * t := Int.mul_nonneg (by omega) t0
      have htt1 : 6007 * t * t ≤ 6007 * 1000000 * 1000000 := Int.mul_le_mul (by omega) ht t0 (by decide)
      refine ⟨.ref g.c, rfl, .int sp, rfl, g.c, _, sp, _, rfl, rfl, SqL.of hc1, hcv, y, 2147483647, rfl, rfl, by decide, fun y1 ey1 hy0 hy1 => ?_⟩
      refine ⟨.int t, rfl, 69621, t, rfl, rfl, .inl ⟨by decide, by decide⟩, fun y2 ey2 => ⟨y1, y2, rfl, rfl, fun y3 ey3 => ⟨y3, 30269, rfl, rfl, fun y4 ey4 => ⟨y4, 3, rfl, rfl, by decide, by decide, by omega, fun y5 ey5 => ⟨y5, 2147483629, rfl, rfl, by decide, fun m em hm0 hm1 => ?_⟩⟩⟩⟩⟩
      refine ⟨.int m, rfl, .int t, rfl, 6007, t, rfl, rfl, .inl ⟨by decide, by decide⟩, fun u1 eu1 => ⟨.int t, rfl, u1, t, rfl, rfl, .inl ⟨by omega, by omega⟩, fun u2 eu2 => ⟨m, u2, rfl, rfl, fun u3 eu3 => ⟨u3, 17, rfl, rfl, fun u4 eu4 => ⟨u4, 3, rfl, rfl, by decide, by decide, ?_, fun u5 eu5 => ⟨u5, 2147483587, rfl, rfl, by decide, fun a ea ha0 ha1 => ?_⟩⟩⟩⟩⟩⟩
      · subst eu1
        omega
      · refine ⟨.int a, rfl, a, 2147483423, rfl, rfl, .inl ⟨by omega, by omega⟩, fun v1 ev1 => ⟨.int m, rfl, v1, m, rfl, rfl, fun v2 ev2 => ⟨v2, 4611686018427387847, rfl, rfl, by decide, fun v3 ev3 hv0 hv1 => ⟨.int b, rfl, v3, b, rfl, rfl, hb0, fun v4 ev4 hv2 hv3 => ?_⟩⟩⟩⟩
        exact q _ _ hv2 hv3 ⟨t1, D1, by omega⟩ K1
end
end Rt
namespace Rt
open PySem PySem.Spec PyProof.Rows L2
theorem sm_new {H : Hp} {p : Addr} {o : HO} (h : H p = none) : Same H (upd H p o) := fun b x e => by
  rw [upd_ne (ne_of_none e h)]
  exact e
theorem sm_mut {H H' : Hp} {p : Addr} {o : HO} (e : Same H H') (h : H p = none) : Same H (upd H' p o) := fun b x z => by
  rw [upd_ne (ne_of_none z h)]
  exact e b x z
theorem cut63 (ns : List Int) : cutV (ns.map V.int) none (some 63) = (ns.take 63).map V.int := by
  unfold cutV
  rw [show HT.sIx (ns.map V.int).length (ns.map V.int).length (some 63) = min 63 (ns.map V.int).length from HT.sIx_nat _ _ 63, HT.sIx_none, List.drop_zero, List.map_take, Nat.sub_zero]
  rw [← List.take_take]
  rw [List.take_length]
theorem ne_of_some {H : Hp} {p q : Addr} {o : HO} (h : H p = some o) (n : H q = none) : q ≠ p := fun e => by
  rw [e, h] at n
  cases n
section
variable {P : Program} {w : World} {K : PySem.W.Frag} {mg : Str → Option Value} {base : Heap}

def spDraws (K : PySem.W.Frag) : Sp := fun vs H Q _ => ∃ (a : Addr) (ns : List Int) (m : Int), vs = [.ref a, .int m] ∧ SqL K H a (ns.map V.int) ∧ ns.length ≤ 63 ∧
  ∀ g H', Same H H' → Fu g 1000000 H' → Q (.ref g.d) H'
theorem ok_draws {f : Addr} {fd : FuncData} {k : Nat} (F : Fun K "_law_draws" "_law_draws" s_law_draws f fd) (m_len : mg "len" = none) (m_list : mg "list" = none) (m_int : mg "int" = none) : FnOk P w K mg base CX0 (k + 1) f fd ["_law_script", "_law_may"] (spDraws K) := by
  refine F.ok sc_law_draws (fun vs H Q E h => ?_) (fun cdv A outer s H vs Q E hr h => ?_)
  · obtain ⟨a, ns, m, rfl, _⟩ := h
    rfl
  · obtain ⟨a, ns, m, rfl, hS, hn, q⟩ := h
    refine ⟨_, (pss_cons (ps_set (i := 2) sc_law_draws.nd rfl (.inl rfl) (pe_op op_cat (pe_callTy call_list_of (by rfl) m_list (by decide +kernel) (pa_cons (pe_slice sl_list (pv 0) po_none (po_some pe_int)) pa_nil)) (pe_op op_rep (pe_lstL (pa_cons pe_int pa_nil)) (pe_callTy call_int1 (by rfl) m_int (by decide +kernel) (pa_cons (pe_cmpR op_eq (pe_callB call_len (by rfl) m_len (by decide +kernel) (pa_cons (pv 0) pa_nil)) pe_int (nomark _)) pa_nil)))))
  (pss_one (ps_ret (pe_lstL (pa_cons (pv 2) (pa_cons pe_int (pa_cons (pe_lc (own := [("_law_cell", 3)]) (g := (gName 3)) (tt := tYes) rfl sc_law_draws.nd (pi_list (pv 2)) (blkOk_by (own := [("_law_cell", 3)]) (N := ["_law_script", "_law_may", "_law_cells", "_law_cell"]) (sc := defScope s_law_draws) (by decide +kernel)) (fun _ _ _ _ _ => (pg_name (i := 3) sc_law_draws.nd rfl (.inl rfl))) (fun _ _ _ _ _ => pts_nil) (fun _ _ _ _ _ => (pe_op op_mulL (pv 3) (pe_callTy call_int1 (by rfl) m_int (by decide +kernel) (pa_cons (pe_cmpR op_ge (pv 3) (pe_op op_powL pe_int pe_int) (nomark _)) pa_nil))))) (pa_cons (pv 1) pa_nil)))))))), ?_⟩
    -- list(script[:63])
    refine ⟨.ref a, rfl, 63, rfl, a, ns.map V.int, rfl, hS, fun c0 n0 => ⟨c0, _, rfl, .inl (SqL.of upd_same), fun l nl => ?_⟩⟩
    rw [cut63]
    have s1 : Same H (upd (upd H c0 (.lst ((ns.take 63).map V.int))) l (.lst ((ns.take 63).map V.int))) := sm_mut (sm_new n0) (by
      cases e : H l with
      | none => rfl
      | some o => rw [sm_new n0 _ _ e] at nl; cases nl)
    generalize eH1 : upd (upd H c0 (.lst ((ns.take 63).map V.int))) l (.lst ((ns.take 63).map V.int)) = H1 at s1 ⊢
    have hl1 : H1 l = some (.lst ((ns.take 63).map V.int)) := by rw [← eH1]; exact upd_same
    -- [0] * int(len(script) == 0)
    refine ⟨by decide, fun p2 H2 np2 eH2 => ⟨.ref a, rfl, .ref a, ns.length, rfl, .inl ⟨_, (s1.trans (by rw [eH2]; exact sm_new np2)).seq hS, by rw [List.length_map]⟩, rfl, .inr ⟨_, rfl, ?_⟩⟩⟩
    have s2 : Same H1 H2 := by rw [eH2]; exact sm_new np2
    have hp2 : H2 p2 = some (.lst [.int 0]) := by rw [eH2]; exact upd_same
    have hl2 := s2 _ _ hl1
    obtain ⟨j, ej, hj⟩ : ∃ j : Nat, (if decide (V.int (ns.length : Int) = V.int 0) = true then (1 : Int) else 0) = (j : Int) ∧ (j = 1 ∧ ns.length = 0 ∨ j = 0 ∧ 0 < ns.length) := by
      by_cases e0 : ns.length = 0
      · exact ⟨1, by rw [e0]; rfl, .inl ⟨rfl, e0⟩⟩
      · refine ⟨0, ?_, .inr ⟨rfl, by omega⟩⟩
        rw [if_neg]
        · rfl
        · intro z
          have z2 := V.int.inj (of_decide_eq_true z)
          omega
    refine ⟨p2, (j : Int), [.int 0], rfl, by rw [← ej], hp2, by omega, by omega, by show 1 * (j : Int).toNat ≤ _; exact sz (by omega), fun p3 np3 => ?_⟩
    have el : (List.replicate ((j : Int).toNat) [V.int 0]).flatten = (List.replicate j (0 : Int)).map V.int := by
      rw [Int.toNat_natCast]
      rcases hj with ⟨rfl, _⟩ | ⟨rfl, _⟩ <;> rfl
    rw [el]
    have hl3 : upd H2 p3 (.lst ((List.replicate j (0 : Int)).map V.int)) l = some (.lst ((ns.take 63).map V.int)) := sm_new np3 _ _ hl2
    refine ⟨l, p3, _, _, rfl, rfl, hl3, upd_same, ?_, fun c nc => ?_⟩
    · rw [List.length_map, List.length_map, List.length_take, List.length_replicate]
      exact sz (by omega)
    rw [← List.map_append]
    generalize ecs : ns.take 63 ++ List.replicate j (0 : Int) = cs
    have lcs : 0 < cs.length ∧ cs.length ≤ 63 := by
      rw [← ecs, List.length_append, List.length_take, List.length_replicate]
      omega
    have s3 : Same H2 (upd (upd H2 p3 (.lst ((List.replicate j (0 : Int)).map V.int))) c (.lst (cs.map V.int))) := (sm_new np3).trans (sm_new nc)
    generalize eH3 : upd (upd H2 p3 (.lst ((List.replicate j (0 : Int)).map V.int))) c (.lst (cs.map V.int)) = H3 at s3 ⊢
    have hc3 : H3 c = some (.lst (cs.map V.int)) := by rw [← eH3]; exact upd_same
    have sH3 : Same H H3 := (s1.trans s2).trans s3
    -- the rests
    refine ⟨.ref c, rfl, .ref c, rfl, c, rfl, ⟨_, SqL.of hc3⟩, fun D nD => ?_⟩
    have oc : D ≠ c := ne_of_some hc3 nD
    refine lc_list (K := K) (a := c) (xs := cs.map V.int) (fun i H' => Same H3 H' ∧ ∃ rs : List Int, H' D = some (.lst (rs.map V.int)) ∧ rs.length = i) ⟨sm_new nD, [], upd_same, rfl⟩ (fun i H' _ h => SqL.of (h.1 _ _ hc3)) (fun i x H' hx h => ?_) (fun H4 h => ?_)
    · obtain ⟨sm, rs, eD, er⟩ := h
      have hi : i < (cs.map V.int).length := (List.getElem?_eq_some_iff.mp hx).1
      rw [List.length_map] at hi
      obtain ⟨z, rfl⟩ : ∃ z, x = V.int z := by
        rw [List.getElem?_map, List.getElem?_eq_getElem hi] at hx
        exact ⟨_, (Option.some.inj hx).symm⟩
      refine ⟨rfl, .int z, rfl, .int z, rfl, 10, 18, rfl, rfl, by decide, by decide, by decide, fun y ey => ⟨z, y, rfl, rfl, .inr ⟨_, rfl, ?_⟩⟩⟩
      refine ⟨z, _, rfl, rfl, .inr ?_, fun v ev => ⟨_, eD, ?_, sm_mut sm nD, rs ++ [v], ?_, ?_⟩⟩
      · split <;> decide
      · rw [List.length_map, er]
        exact szl (by omega)
      · rw [upd_same, List.map_append]
        rfl
      · rw [List.length_append, er]
        rfl
    · obtain ⟨sm, rs, eD, er⟩ := h
      rw [List.length_map] at er
      refine ⟨.int m, rfl, sz (n := 4) (by decide), fun d H5 nd eH5 => ?_⟩
      have hc4 := sm _ _ hc3
      subst eH5
      refine q ⟨d, c, D, cs.length, m⟩ _ (sH3.trans (sm.trans (sm_new nd))) ⟨0, ⟨upd_same, ⟨cs, sm_new nd _ _ hc4, rfl⟩, ⟨rs, sm_new nd _ _ eD, er⟩, ne_of_some hc4 nd, ne_of_some eD nd, oc.symm, lcs.1, lcs.2, by decide⟩, by decide⟩
end
end Rt
namespace Rt
open PySem PySem.Spec PyProof.Rows L2
/-! ### defs that are called where nothing is being shown (no guard stands around) -/
structure FnG (P : Program) (w : World) (K : PySem.W.Frag) (mg : Str → Option Value) (base : Heap) (k : Nat) (f : Addr) (fd : FuncData) (ps : List Str) (sp : Sp) : Prop where
  many : ∀ vs H Q E, sp vs H Q E → vs.length = ps.length
  goes : ∀ (A : Around) (outer : List Env) (s : Shared) (H : Hp) (args : Args) (us : List Value) (vs : List V) (Q : VK) (E : XK), Room k A → A.guards = some [] → Env0 P w K mg base A outer s H → BindsTo s fd args (ps.zip us) → Vals vs us → sp vs H Q E →
    codeAny (model P w) A (.call (.ref f) args) (CR CX0 outer P w H s Q E) s
section
variable {P : Program} {w : World} {K : PySem.W.Frag} {mg : Str → Option Value} {base : Heap}
theorem okG {x qual : Str} {st : Stmt} {f : Addr} {fd : FuncData} {N ps : List Str} {k : Nat} {sp : Sp} (F : Fun K x qual st f fd) (S : FnScope N ps (defScope st)) (many : ∀ vs H Q E, sp vs H Q E → vs.length = ps.length)
    (walk : ∀ (cdv : Value) (A : Around) (outer : List Env) (s : Shared) (H : Hp) (vs : List V) (Q : VK) (E : XK), Room k (A.deeper (envOfC qual (defScope st) s.heap.objs.size f cdv)) → (A.deeper (envOfC qual (defScope st) s.heap.objs.size f cdv)).guards = some [] → sp vs H Q E →
      ∃ t, PSs (cxOf CX0 P w K mg base N qual (defScope st) f cdv A outer s H E).nox (defBody st) t ∧ t { nx := fun _ H' => Q .non H', rt := Q } (start N vs) H) : FnG P w K mg base (k + 1) f fd ps sp := by
  obtain ⟨oc, od, kV, doc, pm, an, cdv, ct, osl, rfl, lk, hcd⟩ := F.ex
  refine ⟨many, fun A outer s H args us vs Q E room free e0 binds vals hsp => ?_⟩
  have cnt := many vs H Q E hsp
  have stands : ∀ b o, base.get? b = some o → s.heap.get? b = some o := fun b o e => (e0.bs b o e).1
  have inK : K.In s.heap := e0.mod.kin.keeps stands
  have kinds : ∀ y ∈ ps.zip us, (defScope st).names.lookup y.1 = some .local ∨ ((defScope st).names.lookup y.1 = some .cell ∧ ((cellsFrom (s.heap.objs.size + 1) (defScope st).names []).lookup y.1).isSome = true) := by
    rintro ⟨nm, vl⟩ hm
    exact (S.par nm (List.of_mem_zip hm).1).imp id fun c => ⟨c, PySem.W.cellsFrom_some _ _ _ (.inl c)⟩
  refine codeAny_call_function room.depth (inK _ _ lk) rfl S.co S.gen rfl (PySem.W.codeRec_of inK hcd) (binds _ _ _ _ (wpAny_newFunctionEnv_cells S.kind kinds fun env he s1 fresh => ?_))
  subst he
  refine ⟨(e0.mod.nolimit.keeps stands).keeps fresh.toInCall.keep, codeAny_func ?_⟩
  obtain ⟨t, ht, hq⟩ := walk cdv A outer s H vs Q E (room.deeper _) free hsp
  have J0 : Inv (cxOf CX0 P w K mg base N qual (defScope st) f cdv A outer s H E) [] (start N vs) H s1 := inv_start S room.hd e0 cnt vals fresh
  refine wpAny_mono (ht.nox.run [] s1 (start N vs) H _ J0 hq) (fun fl s2 done => ?_) fun _ _ z => z
  cases fl with
  | ret u => obtain ⟨v, σ2, H2, J, rv, qv⟩ := done; exact ⟨v, H2, J.os, J.bare, J.base, J.hok, rv, qv⟩
  | next => obtain ⟨σ2, H2, J, qv⟩ := done; exact ⟨V.non, H2, J.os, J.bare, J.base, J.hok, rfl, qv⟩
  | brk => obtain ⟨_, _, _, qv⟩ := done; exact qv.elim
  | cont => obtain ⟨_, _, _, qv⟩ := done; exact qv.elim
theorem FnG.of {k : Nat} {f : Addr} {fd : FuncData} {ps : List Str} {sp : Sp} (F : FnOk P w K mg base CX0 k f fd ps sp) : FnG P w K mg base k f fd ps sp :=
  ⟨F.len, fun A outer s H args us vs Q E room _ => F.run A outer s H args us vs Q E room⟩
end
structure ClG (P : Program) (w : World) (K : PySem.W.Frag) (mg : Str → Option Value) (base : Heap) (k : Nat) (x : Str) (ps : List Str) (sp : Sp) : Prop where
  ex : ∃ (f : Addr) (fd : FuncData), FnG P w K mg base k f fd ps sp ∧ mg x = some (.ref f) ∧ PySem.W.keepIn K (.ref f) = true ∧ Binds K fd ps []
section
variable {X : Cx}
theorem run_G {k : Nat} {f : Addr} {fd : FuncData} {ps : List Str} {sp : Sp} {pn : List (Addr × Obj)} {σ : L2.St} {H : Hp} {s : Shared} {Q : VK} {us : List Value} {vs : List V} (F : FnG X.prog X.w X.K X.mg X.base k f fd ps sp) (room : Room k X.A) (free : X.A.guards = some []) (bd : Binds X.K fd ps [])
    (I : Inv X pn σ H s) (r : Vals vs us) (h : sp (vs ++ []) H Q E0) : wpAny (model X.prog X.w) X.A (call (.ref f) us) (EP X pn σ Q) X.xe s := by
  have r2 : Vals (vs ++ []) (us ++ []) := r.append .nil
  refine wpAny_call (codeAny_mono (F.goes X.A X.stack s H ⟨us, []⟩ (us ++ []) (vs ++ []) Q E0 room free I.env0 (bd s us I.kIn (by rw [← r2.length]; exact F.many _ _ _ _ h)) r2 h) fun res s2 hq => ?_)
  cases res with
  | error e => exact (hq : False).elim
  | ok fl => cases fl with
    | ret u => exact I.after hq
    | next => exact (hq : False).elim
    | brk => exact (hq : False).elim
    | cont => exact (hq : False).elim
theorem pe_clG {k : Nat} {x : Str} {ps : List Str} {sp : Sp} {p pos : Pos} {e : Expr} {es : List Expr} {t : TA} (C : ClG X.prog X.w X.K X.mg X.base k x ps sp) (room : Room k X.A) (free : X.A.guards = some []) (hg : Gl X x) (ha : PA X (e :: es) t)
    (hdb : (x == ("__debug__" : Str)) = false := by decide) (he : starEach (e :: es) X.env = (false, eval e X.env) :: starEach es X.env := by rfl) (hpl : (backTo pos (starEach es X.env)).any (·.1) = false := by rfl) :
    PE X (.Call (.Name x p) (e :: es) [] pos) (tCall sp [] E0 t) := by
  obtain ⟨f, fd, F, hm, hk, hb⟩ := C.ex
  refine ⟨fun pn s σ H Q I h => wpAny_Call_Name_kw (ld_glob I hg hm ?_ hdb)⟩
  exact PySem.W.callWith_K (h₀ := X.base) I.ok.mod.kin hk (thn (ha.run pos pn s σ H _ I h) fun us s1 ⟨vs, H1, I1, r, q⟩ => ⟨I1.kIn, run_G F room free hb I1 r q⟩) he hpl
/-! ### repr of data -/
def rRepr (K : PySem.W.Frag) : List V → Hp → VK → Prop := fun xs H Q => ∃ (a : Addr) (d : PyData), xs = [.ref a] ∧ Dp K H (.ref a) d ∧ d.showable = true ∧ d.hasDict = false ∧ d.depth ≤ 60 ∧ d.shown.length ≤ sizeLine ∧ ∀ z : Str, z = d.shown → Q (.str z) H
theorem call_repr (free : X.A.guards = some []) (hu : X.A.units + 64 < cLine) : CallR X (.builtin "repr") (rRepr X.K) := by
  intro pn s σ H xs us Q I r h
  obtain ⟨a, d, rfl, hd, h1, h2, h3, h4, q⟩ := h
  obtain ⟨u, rfl, r1⟩ := vals1 r
  obtain ⟨as, rd⟩ := Dp.reads I d _ u hd r1
  cases r1
  exact repr_of_reads' rd h1 (fun z => by rw [h2] at z; cases z) free (by omega) (fun _ _ e => e) (fun h' u tk hk => ⟨.str _, H, I.kept hk, ⟨_, rfl⟩, q _ rfl⟩) h4
def rReprB : List V → Hp → VK → Prop := fun xs H Q => ∃ b : Bool, xs = [.bl b] ∧ ∀ z : Str, z = (if b then Str.ofString "True" else Str.ofString "False") → Q (.str z) H
theorem call_reprB : CallR X (.builtin "repr") rReprB := by
  intro pn s σ H xs us Q I r h
  obtain ⟨b, rfl, q⟩ := h
  obtain ⟨u, rfl, r1⟩ := vals1 r
  cases r1
  exact PySem.P.repr_of_bool ⟨.str _, H, I.tok _, ⟨_, rfl⟩, q _ rfl⟩
end
/-! ### the law itself, called where no guard stands -/
theorem lawG {P : Program} {w : World} {K : PySem.W.Frag} {mg mb : Str → Option Value} {k : Nat} {fa a : Addr} {fd : FuncData} {x : Str} {sp : Sp} {s0 : Shared} {us : List Value} {ns : List Int}
    (inK : K.In s0.heap) (gl : s0.heap.Ns mainGlobals mg) (bl : s0.heap.Ns builtinsNs mb) (bb : ∀ x : Str, x ≠ "__name__" → mb x = bootBuiltins x) (nl : s0.heap.NoLimit) (ng : s0.gens = #[])
    (sc : s0.heap.get? a = some { cls := .type "list", data := .seq us.toArray }) (hin : IntsAre us ns) (short : ns.length ≤ sizeLine) (room : Room k callerA)
    (F : ∀ base : Heap, K.In base → base.Ns mainGlobals mg → FnG P w K mg base k fa fd [x] sp) (bd : ∀ (s : Shared) (u : Value), BindsTo s fd ⟨[u], []⟩ [(x, u)])
    (hsp : ∀ H : Hp, Only H → SqL K H a (ns.map V.int) → sp [.ref a] H (fun v _ => v = .bl true) E0) :
    codeAny (model P w) callerA (.call (.ref fa) ⟨[.ref a], []⟩) (fun r s2 => r = .ok (.ret (.bool true)) ∧ OldK s0.heap s2.heap ∧ s2.os = s0.os ∧ AllBare s2.gens) s0 := by
  have rel := vals_ints hin
  have main : ∀ H : Hp, Only H → SqL K H a (ns.map V.int) → HOk P w H s0.heap → (∀ b u, H b = some u → b = a ∧ K.lookup a = none) →
      codeAny (model P w) callerA (.call (.ref fa) ⟨[.ref a], []⟩) (fun r s2 => r = .ok (.ret (.bool true)) ∧ OldK s0.heap s2.heap ∧ s2.os = s0.os ∧ AllBare s2.gens) s0 := by
    intro H only seq hok just
    have free : ∀ {b : Addr}, (b = a → K.lookup a = none → False) → H b = none := fun {b} no => by
      cases z : H b with
      | none => rfl
      | some u => exact (no (just b u z).1 (just b u z).2).elim
    have spaces : ∀ {b : Addr} {m : Str → Option Value}, s0.heap.Ns b m → (hidT s0.heap H).Ns b m := fun {b m} h => by
      obtain ⟨o, es, ep, e, d, r⟩ := h
      refine ⟨o, es, ep, hidT_get e (free fun z _ => ?_), d, r⟩
      subst z
      rw [sc] at e
      cases e
      cases d
    have inB : K.In (hidT s0.heap H) := fun b o e => hidT_get (inK b o e) (free fun z n => by
      subst z
      rw [n] at e
      cases e)
    have md : Mod K mg (hidT s0.heap H) := by
      obtain ⟨mc, n1, n2⟩ := nl
      exact ⟨inB, spaces gl, ⟨mb, spaces bl, bb⟩, ⟨mc, spaces n1, n2⟩⟩
    have en : Env0 P w K mg (hidT s0.heap H) callerA [] s0 H := ⟨rfl, md, fun b o e => of_hidT e, Nat.le_of_eq (hidT_size _ _), trivial, (fun b z => nomatch (show b ∈ ([] : List Addr) from z)), hok, .of_eq ng⟩
    refine codeAny_mono ((F _ inB (spaces gl)).goes callerA [] s0 H ⟨[.ref a], []⟩ [.ref a] [.ref a] _ _ room rfl en (bd s0 (.ref a)) (.cons rfl .nil) (hsp H only seq)) fun r s2 h => ?_
    match r, h with
    | .error e, h => exact (h : False).elim
    | .ok .next, h => exact (h : False).elim
    | .ok .brk, h => exact (h : False).elim
    | .ok .cont, h => exact (h : False).elim
    | .ok (.ret u), h =>
      obtain ⟨v, H2, os, bare, un, hok2, rv, rfl⟩ := h
      obtain rfl : u = Value.bool true := rv
      refine ⟨rfl, OldK.of_keep fun b o e => ?_, os, bare⟩
      rcases only b with z | ⟨ob, xs, z⟩
      · exact un.keep b o e z (fun m => nomatch (show b ∈ ([] : List Addr) from m)) (fun m => nomatch m)
      · have e1 := (hok b _ z).1
        have e2 := (hok2 b _ (un.frzs b ob _ z)).1
        rw [e] at e1
        cases e1
        exact e2
  cases own : K.lookup a with
  | some o =>
    have e := inK a o own
    rw [sc] at e
    cases e
    exact main (fun _ => none) (fun _ => .inl rfl) (.inr ⟨_, us.toArray, _, own, rfl, rfl, rfl, by rw [List.size_toArray, hin.length]; exact short, by simpa using rel⟩) (fun b u z => nomatch z) (fun b u z => nomatch z)
  | none =>
    refine main (fun b => if b = a then some (.frz { cls := .type "list", data := .seq us.toArray } (.lst (ns.map V.int))) else none) (fun b => ?_) (.inl (.inr ⟨{ cls := .type "list", data := .seq us.toArray }, if_pos rfl⟩)) (fun b u z => ?_) (fun b u z => ?_)
    · by_cases e : b = a
      · exact .inr ⟨_, _, if_pos e⟩
      · exact .inl (if_neg e)
    · by_cases e : b = a
      · have z2 := (if_pos e).symm.trans z
        cases z2
        subst e
        exact ⟨sc, by rw [List.length_map]; exact short, us, _, rel, sc⟩
      · exact nomatch ((if_neg e).symm.trans z)
    · by_cases e : b = a
      · exact ⟨e, own⟩
      · exact nomatch ((if_neg e).symm.trans z)
theorem walk_G {l : PySem.W.OpenLaw} {n k : Nat} {q : Program} {loose : List Str} {XP : (Str → Option Value) → Heap → Prop} {YP : World → Heap → Prop} {d : DefRec} {K : Params → PySem.W.Frag} {sp : World → Sp} {x : Str}
    (most : l.most = some n) (n2 : n ≤ sizeLine) (nd : d.params.defaults = []) (room : Room k callerA) (hY : ∀ (w : World) (h : Heap), YP w h → (K w.params).In h)
    (F : ∀ (w : World) (mg : Str → Option Value) (fa : Addr) (h : Heap), (K w.params).In h → h.Ns mainGlobals mg → mg d.name = some (.ref fa) →
      ∃ fd : FuncData, (∀ (s : Shared) (u : Value), BindsTo s fd ⟨[u], []⟩ [(x, u)]) ∧ ∀ base : Heap, (K w.params).In base → base.Ns mainGlobals mg → FnG l.prog w (K w.params) mg base k fa fd [x] (sp w))
    (hsp : ∀ (w : World) (H : Hp) (a : Addr) (ns : List Int), ns.length ≤ n → Only H → SqL (K w.params) H a (ns.map V.int) → sp w [.ref a] H (fun v _ => v = .bl true) E0) :
    PySem.W.WalkO q loose XP YP l.row.toRowW d [] (fun f vs => PySem.call f vs) := by
  refine Att.attach_call most nd fun w sA sB mg mb fa o pm cd doc a us ns G Y ho hd hcd hmg hobj hints hlen hg => ?_
  obtain ⟨fd, hb, hF⟩ := F w mg fa _ (hY w _ Y) G.T.g hmg
  exact lawG (hY w _ Y) G.T.g G.T.b G.T.builtins G.T.nolimit hg hobj hints (Nat.le_trans hlen n2) room hF hb fun H only seq => hsp w H a ns hlen only seq
end Rt
namespace Rt
open PySem PySem.Spec PyProof.Rows L2
theorem at_new {H H' : Hp} {p : Addr} {o : HO} (e : H' = upd H p o) : H' p = some o := by
  rw [e]
  exact upd_same
theorem SqT.frz {K : PySem.W.Frag} {H : Hp} {a : Addr} {o : Obj} {xs : List V} (h : H a = some (.frz o (.tup xs))) : SqT K H a xs := .inl (.inr ⟨o, h⟩)
section
variable {X : Cx}
/-- tuple(list), its object known -/
def rTupF (K : PySem.W.Frag) : List V → Hp → VK → Prop := fun xs H Q => ∃ p ys, xs = [.ref p] ∧ SqL K H p ys ∧ ∀ l o H', H l = none → o.dict = none → H' = upd H l (.frz o (.tup ys)) → Q (.ref l) H'
theorem call_tupF : CallR X (.type "tuple") (rTupF X.K) := by
  intro pn s σ H xs us Q I r h
  obtain ⟨p, ys, rfl, hq, q⟩ := h
  obtain ⟨u, rfl, rx⟩ := vals1 r
  cases rx
  obtain ⟨its, r', pl, hz⟩ := I.list hq
  have hln := r'.length
  refine call_tuple_list pl.isList (fun h2 kp => ?_) (by simp only [List.size_toArray] <;> omega)
  have J : Inv X pn σ H { s with heap := h2 } := I.kept (t' := s.toks) kp
  have J2 : Inv X pn σ (upd H h2.objs.size (.frz { cls := .type "tuple", data := .seq its.toArray } (.tup ys))) { s with heap := h2.push { cls := .type "tuple", data := .seq its.toArray } } :=
    J.laid (t' := s.toks) (fun b o e => Heap.get?_push_of_some _ e) (Nat.le_refl _) (show ObjOk X.prog X.w _ _ _ (.frz { cls := .type "tuple", data := .seq its.toArray } (.tup ys)) from ⟨Heap.get?_push_size _ rfl, hz, its, r', IsTup.new _ _⟩)
  exact ⟨.ref h2.objs.size, _, J2, rfl, q _ _ _ (J.hok.fresh (Nat.le_refl _)) rfl rfl⟩
/-- t.index(z) of such a tuple of texts -/
def tIdxF (K : PySem.W.Frag) (to : TE) (t : TA) : TE := fun σ H Q => to σ H fun x H1 => ∃ p o, ∃ ys : List Str, x = .ref p ∧ H1 p = some (.frz o (.tup (ys.map V.str))) ∧ o.dict = none ∧ t σ H1 fun xs H2 => ∃ z j, xs = [.str z] ∧ SqT K H2 p (ys.map V.str) ∧ ys[j]? = some z ∧ (∀ m, m < j → ys[m]? ≠ some z) ∧ Q (.int (j : Nat)) H2
theorem pe_idxF {ob e : Expr} {to : TE} {t : TA} {apos cpos : Pos} (ho : PE X ob to) (ha : PA X [e] t)
    (hbase : attributeBase ob "index" X.env (eval ob X.env) = eval ob X.env := by rfl)
    (hfew : ((backTo cpos (starEach [e] X.env)).all (fun x => !x.1) && (backToKw cpos (keywordEach [] X.env)).all (fun x => x.1.isSome) && decide (([e] : List Expr).length + ([] : List Keyword).length + (if ([] : List Keyword).isEmpty then 0 else 1) < 30)) = true := by rfl)
    (hline : (apos.endLine == cpos.line) = true := by rfl) (hs : starEach [e] X.env = (false, eval e X.env) :: starEach [] X.env := by rfl) (hplain : (backTo cpos (starEach [] X.env)).any (·.1) = false := by rfl) :
    PE X (.Call (.Attribute ob "index" apos) [e] [] cpos) (tIdxF X.K to t) := by
  refine ⟨fun pn s σ H Q I h => wpAny_Call_method_late hbase hfew hline rfl (thn (ho.run pn s σ H _ I h) fun v s1 done => ?_)⟩
  obtain ⟨x, H1, I1, r1, p, o, ys, rfl, hp, hd, q1⟩ := done
  obtain ⟨he, _, its, _, hT⟩ := I1.hok p _ hp
  have ev : v = Value.ref p := by cases r1; rfl
  refine ⟨"tuple", "tuple.index", PySem.F.plainAttrs_tuple, PySem.F.slot_tuple_index, PySem.F.type_tuple_index, by rw [ev]; exact hT.typeIs, fun a z => ?_, ?_⟩
  · rw [ev] at z
    cases z
    exact ⟨o, he, hd⟩
  have hA := ha.run cpos pn s1 σ H1 _ I1 q1
  rw [hs] at hA ⊢
  refine Calls.callWith_builtin (by show (false || (backTo cpos (starEach [] X.env)).any (·.1)) = false; rw [hplain] <;> rfl) (Calls.evalArgs_plain (thn hA fun us s2 more => ?_))
  obtain ⟨vs, H2, I2, r2, z, j, e1, e2, e3, e4, q2⟩ := more
  exact mt_tup_index pn s2 σ H2 (.ref p) vs v us Q I2 r1 r2 ⟨p, ys, z, j, rfl, e1, e2, e3, e4, q2⟩
end
end Rt
namespace Rt
open PySem PySem.Spec PyProof.Rows L2
/-! ### enumerate(tuple) -/
theorem new_enum {v : Value} {o : Obj} {Hq : Heap → Prop} (B : Begins v o Hq) :
    Meets (Builtin.«enumerate.__new__» ⟨[.type "enumerate", v], []⟩) (fun _ R s => Hq s.heap ∧
      R (.ok (.ret (.ref (s.heap.push o).objs.size))) { s with heap := (s.heap.push o).push { cls := .type "enumerate", data := .fields #[.none, .bool false, .ref s.heap.objs.size, rawInt 0, .none, .none] } }) :=
  .of_wp fun prog w A R s h => by
    obtain ⟨hp, gn, dr, tk, os⟩ := s; obtain ⟨hq, h⟩ := h
    have sub := sub_enumerate
    have it : ∀ {A2 : Around} {E : Value → Shared → Prop} {Q : Value → Shared → Prop}, Q (.ref hp.objs.size) ⟨hp.push o, gn, dr, tk, os⟩ → wpAny (model prog w) A2 (pyIter v) Q E ⟨hp, gn, dr, tk, os⟩ :=
      fun q => B.iter prog w _ _ ⟨hp, gn, dr, tk, os⟩ _ hq q
    wp_walk using it
    refine wpAny_stack_any fun st => wpAny_pure ?_
    split
    · rename_i c _ _ _ _ _
      cases (c == Value.type "enumerate")
      all_goals (wp_walk using it; exact ⟨_, rfl, h⟩)
    · wp_walk using it
      exact ⟨_, rfl, h⟩
section
variable {prog : Program} {w : World} {A : Around} {E : Value → Shared → Prop} {s : Shared}
theorem call_enum {v : Value} {o : Obj} {Hq : Heap → Prop} {Q : Value → Shared → Prop} (B : Begins v o Hq) (hq : Hq s.heap)
    (h : ∀ h2, IsEnum h2 (s.heap.objs.size + 1) s.heap.objs.size 0 .none → h2.get? s.heap.objs.size = some o → (∀ b ob, s.heap.get? b = some ob → h2.get? b = some ob) → Q (.ref (s.heap.objs.size + 1)) { s with heap := h2 }) :
    wpAny (model prog w) A (call (.type "enumerate") [v]) Q E s := by
  refine callType_new F.called_enumerate (by decide) (F.typeCall_enumerate_1 _) (F.newCall_enumerate_1 _) (fun obj => F.args_object_init_2 obj _) F.entry_enumerate_new (new_enum B) ⟨hq, ?_⟩
  have sz1 : (s.heap.push o).objs.size = s.heap.objs.size + 1 := Heap.size_push ..
  have en : IsEnum ((s.heap.push o).push { cls := .type "enumerate", data := .fields #[.none, .bool false, .ref s.heap.objs.size, rawInt 0, .none, .none] }) (s.heap.objs.size + 1) s.heap.objs.size 0 .none := by
    have z := Heap.get?_push_size (s.heap.push o) (o := { cls := .type "enumerate", data := .fields #[.none, .bool false, .ref s.heap.objs.size, rawInt 0, .none, .none] }) rfl
    rwa [sz1] at z
  show _ ∧ _
  rw [sz1]
  exact ⟨⟨_, en, rfl⟩, h _ en (Heap.get?_push_of_some _ (Heap.get?_push_size _ B.free)) fun b ob z => Heap.get?_push_of_some _ (Heap.get?_push_of_some _ z)⟩
end
/-- the tuple at a as it stands at each turn, each item in a new pair -/
def IteT (K : PySem.W.Frag) (a : Addr) : It :=
  ⟨fun i H => ∃ (xs : List V) (x : V), SqT K H a xs ∧ xs[i]? = some x, fun i H v H' => ∃ T x, v = .ref T ∧ H T = none ∧ H' = upd H T (.tup [.int (i : Nat), x]) ∧ ∀ xs, SqT K H a xs → xs[i]? = some x, fun i H => ∃ xs : List V, SqT K H a xs ∧ xs.length = i⟩
theorem turn_enumT {P : Program} {w : World} {K : PySem.W.Frag} {elts : List Expr} {kk : Nat} {tpos : Pos} (a e it : Addr) :
    Turn P w K (.Tuple elts kk tpos) (IteT K a) [e, it] e (fun i h => (∃ old, IsEnum h e it ((i : Nat) : Int) old) ∧ h.IsTupleIter it a i ∧ e ≠ it ∧ a ≠ it ∧ a ≠ e) where
  mem := by simp
  obj := by
    rintro i h ⟨⟨old, he⟩, ⟨o, ho, hc, hd⟩, _⟩ b hb
    rcases (by simpa using hb : b = e ∨ b = it) with rfl | rfl
    · exact ⟨_, he, fun v q => nomatch q⟩
    · exact ⟨o, ho, fun v q => by rw [hd] at q; cases q⟩
  keep := by
    rintro i h h2 ⟨⟨old, he⟩, hi, ne⟩ k
    exact ⟨⟨old, k e (by simp) _ he⟩, hi.at fun o q => k it (by simp) o q, ne⟩
  item := by
    intro X hP hw hK hc i pn s σ H E I hf st hg
    subst hP hw hK
    obtain ⟨⟨old, he⟩, hit, ne, nai, nae⟩ := st
    obtain ⟨xs, x, hq, hx⟩ := hg
    obtain ⟨its, rv, tp, hz⟩ := I.tuple hq
    obtain ⟨u, hu, ru⟩ := rv.get hx
    have hel : e < s.heap.objs.size := Heap.lt_size he
    have hil : it < s.heap.objs.size := by obtain ⟨_, q, _⟩ := hit; exact Heap.lt_size q
    have hlt : i < its.toArray.size := by simpa using (List.getElem?_eq_some_iff.mp hu).1
    refine wpAny_pyNext_enum_itemD (Draws.tuple (A := X.A.in1) (I.ok.hd hc) it a nai its.toArray) he ⟨hit, tp⟩ hlt ne (by simp [ne, Ne.symm nae]) fun y h2 tk hy ho hst hT hsz hk => ?_
    have eu : y = u := by
      have : its.toArray[i]? = some u := by simpa using hu
      rw [this] at hy
      exact (Option.some.inj hy).symm
    subst eu
    refine ⟨_, rfl, wpAny_letOwnedTupleGo_enum (s := { s with heap := h2, toks := tk + 1 }) ho fun h3 he3 sb => ?_⟩
    have hT3 : h3.get? s.heap.objs.size = some { cls := .type "tuple", data := .seq #[.int i tk, y] } := (sb.2 _ (Nat.ne_of_gt hel)).trans hT
    have fresh : ObjOk X.prog X.w (upd H s.heap.objs.size (.tup [.int (i : Nat), x])) h3 s.heap.objs.size (.tup [.int (i : Nat), x]) :=
      ⟨sz (n := 2) (by decide), [.int i tk, y], .cons ⟨_, rfl⟩ (.cons ru .nil), ⟨_, hT3, rfl, _, rfl⟩⟩
    have J : Inv X pn σ (upd H s.heap.objs.size (.tup [.int (i : Nat), x])) { s with heap := h3, toks := tk + 1 } :=
      I.turnedNew (ch := [e, it]) (fun b ob hb q => (sb.2 b (fun z => hb (by simp [z]))).trans (hk b ob (fun z => hb (by simp [z])) (fun z => hb (by simp [z])) q)) hf (Nat.le_refl _) fresh
    have ci : ((i + 1 : Nat) : Int) = (i : Int) + 1 := by omega
    refine ⟨.ref s.heap.objs.size, _, J, rfl, ⟨_, x, rfl, I.hok.fresh (Nat.le_refl _), rfl, fun ys hy2 => by rw [I.tuple_inj hy2 hq]; exact hx⟩, ⟨⟨y, by rw [ci]; exact he3⟩, hst.1.at fun o q => (sb.2 it (Ne.symm ne)).trans q, ne, nai, nae⟩, fun b hb => ?_⟩
    have lt : b < s.heap.objs.size := by
      rcases (by simpa using hb : b = e ∨ b = it) with rfl | rfl
      · exact hel
      · exact hil
    rw [upd_ne (Nat.ne_of_lt lt)]
    exact (hf b hb).1
  done := by
    intro X hP hw hK hc i pn s σ H E I hf st hg
    subst hP hw hK
    obtain ⟨⟨old, he⟩, hit, ne, nai, nae⟩ := st
    obtain ⟨xs, hq, hx⟩ := hg
    obtain ⟨its, rv, tp, hz⟩ := I.tuple hq
    obtain ⟨f0, f1, f2, f3, f4, f5⟩ := hf it (by simp)
    have en : i = its.toArray.size := by rw [List.size_toArray, ← rv.length, hx]
    exact wpAny_pyNext_enum_endD (Draws.tuple (A := X.A.in1) (I.ok.hd hc) it a nai its.toArray) he ⟨by rw [← en]; exact hit, tp⟩ fun h2 eb => ⟨rfl, I.turned (t' := s.toks) (fun b o hb q => eb b o hb q) f0 f1 f3 f4 f5⟩
  self := by
    rintro A i s Q E ⟨⟨_, he⟩, _⟩ h
    exact wpAny_pyIter_enum he h
def iEnumT (K : PySem.W.Frag) (ta : TA) : TI := fun σ H R => ta σ H fun vs H1 => ∃ a xs, vs = [.ref a] ∧ SqT K H1 a xs ∧ R (IteT K a) H1
theorem pi_enumT {X : Cx} {e : Expr} {ta : TA} {p pos tpos : Pos} {elts : List Expr} {kk : Nat} (hg : Gl X "enumerate") (hm : X.mg "enumerate" = none) (ha : PA X [e] ta) (hs : starEach [e] X.env = [(false, eval e X.env)] := by rfl) :
    PI X (.Tuple elts kk tpos) (.Call (.Name "enumerate" p) [e] [] pos) (iEnumT X.K ta) := by
  refine ⟨fun pn s σ H R I h => Call_ (ld_blt I hg hm boot_enumerate (PyProof.Rows.callWith_type1 (thn (ha.run pos pn s σ H _ I h) fun us s1 done => ?_) hs rfl))⟩
  obtain ⟨vs, H1, J, r1, a, xs, rfl, hq, q⟩ := done
  obtain ⟨u, rfl, rx⟩ := vals1 r1
  cases rx
  obtain ⟨its, rv, tp, hz⟩ := J.tuple hq
  have hal : a < s1.heap.objs.size := by obtain ⟨_, z, _⟩ := tp; exact Heap.lt_size z
  refine call_enum (begins_tuple a its.toArray) tp fun h2 he hit hk => wpAny_pyIter_enum he ?_
  refine ⟨s1.heap.objs.size + 1, [s1.heap.objs.size + 1, s1.heap.objs.size], _, _, H1, rfl, J.kept (t' := s1.toks) hk, turn_enumT a (s1.heap.objs.size + 1) s1.heap.objs.size, ⟨⟨.none, he⟩, ⟨_, hit, rfl, rfl⟩, Nat.succ_ne_self _, Nat.ne_of_lt hal, Nat.ne_of_lt (Nat.lt_succ_of_lt hal)⟩, fun b hb => ?_, q⟩
  have le : s1.heap.objs.size ≤ b := by
    rcases (by simpa using hb : b = s1.heap.objs.size + 1 ∨ b = s1.heap.objs.size) with rfl | rfl
    · exact Nat.le_succ _
    · exact Nat.le_refl _
  exact J.fpOk le (J.hok.fresh le)
theorem walk_enumT {K : PySem.W.Frag} {a : Addr} {xs : List V} : Walk (IteT K a) xs.length (fun H => SqT K H a xs) (YPair (fun i => some (.int (i : Nat))) (fun i => xs[i]?)) := by
  refine ⟨fun i H hi z => ⟨xs, xs[i], z, by simp [hi]⟩, fun H z => ⟨xs, z, rfl⟩, fun i H v H' hi z y => ?_⟩
  obtain ⟨T, x, h1, h2, h3, h4⟩ := y
  exact ⟨T, .int (i : Nat), x, h1, h2, h3, rfl, h4 xs z⟩
end Rt
namespace Rt
open PySem PySem.Spec PyProof.Rows L2
/-! ### tuple * 1 -/
theorem tuple_mul1 (l : Addr) (items : Array Value) (n : Nat) (dd : Option Addr) (sl : Array (Option Value)) (u : Tok) (c1 : (items.isEmpty || (1 : Int) == 1) = true) :
    Meets (Builtin.«tuple.__mul__» ⟨[.ref l, .int 1 u], []⟩) (fun _ R s => s.heap.get? l = some { cls := .type "tuple", dict := dd, data := .seq items n, slots := sl } ∧
      R (.ok (.ret (Value.ref l))) s) :=
  .of_wp fun prog w A R s h => by
    obtain ⟨hp, g, d, tk, os⟩ := s
    obtain ⟨hl, h⟩ := h
    have f1 := AutoSeq1.idx_int
    have c0 : (decide ((1 : Int) < -(2 ^ 63)) || decide ((1 : Int) ≥ 2 ^ 63)) = false := by decide
    wp_walk using wpAny_loadPart' hl
    repeat (first
      | (refine wpAny_ite_false (decide_eq_false (by rw [c0]; exact Bool.false_ne_true)) ?_; wp_walk using wpAny_loadPart' hl)
      | (refine wpAny_ite_true (decide_eq_true c1) ?_; wp_walk using wpAny_loadPart' hl))
    exact ⟨_, rfl, h⟩
theorem smN {H : Hp} {p : Addr} {o : HO} (h : H p = none) : Same H (upd H p o) := fun b x e => by
  rw [upd_ne (ne_of_none e h)]
  exact e
section
variable {X : Cx}
/-- t * k -/
def rRepS1 : R2 := fun x y H Q => ∃ l k xs, x = .ref l ∧ y = .int k ∧ H l = some (.tup xs) ∧ xs ≠ [] ∧ 1 ≤ k ∧ k ≤ 1000 ∧ xs.length ≤ 1000 ∧ ∀ p H', Same H H' → H' p = some (.tup (List.replicate k.toNat xs).flatten) → Q (.ref p) H'
theorem op_repS1 : OpR X (binaryOp .Mult) rRepS1 := by
  intro pins s σ H x y v u Q I rx ry h
  obtain ⟨l, k, xs, rfl, rfl, hT, hne, h1, h2, hz, q⟩ := h
  by_cases e : k = 1
  · subst e
    cases rx
    obtain ⟨t, rfl⟩ := ry
    obtain ⟨its, r, ⟨⟨cls, dd, data, sl⟩, ho, hc, n, hd⟩, hs⟩ := I.tuple (SqT.of hT)
    simp only at hc hd
    subst hc hd
    refine wpAny_binaryOp_repeat_ref (T := "tuple") (U := "int") (by decide) ⟨_, ho, rfl⟩ (fun s' => typeIs_int s' 1 t) noFill_tuple_mul F.fills_int_mul F.slot_int_rmul repeat_tuple F.slot_int_index.lookup
      (call_meets F.slot_int_rmul (typeIs_int s 1 t) F.entry_int_rmul (F.args_int_rmul_2 _ _) (int_rmul_tuple 1 t l its.toArray n dd sl)
        ⟨ho, rfl, ⟨_, ho, rfl⟩, call_meets F.slot_tuple_mul ⟨_, ho, rfl⟩ F.entry_tuple_mul (F.args_tuple_mul_2 _ _) (tuple_mul1 l its.toArray n dd sl t (by simp)) ⟨ho, ?_⟩⟩)
    refine ⟨.ref l, H, I, rfl, q l H (Same.refl H) ?_⟩
    rw [hT]
    simp
  · exact op_repT pins s σ H _ _ v u Q I rx ry ⟨l, k, xs, rfl, rfl, SqT.of hT, hne, by omega, h2, hz, fun p np => q p _ (smN np) upd_same⟩
/-- t + u -/
def rCatS : R2 := fun x y H Q => ∃ a b xs ys, x = .ref a ∧ y = .ref b ∧ H a = some (.tup xs) ∧ H b = some (.tup ys) ∧ xs.length + ys.length ≤ 1000 ∧ ∀ p H', Same H H' → H' p = some (.tup (xs ++ ys)) → Q (.ref p) H'
theorem op_catS : OpR X (binaryOp .Add) rCatS := by
  intro pins s σ H x y v u Q I rx ry h
  obtain ⟨a, b, xs, ys, rfl, rfl, ha, hb, hz, q⟩ := h
  refine op_catA pins s σ H _ _ v u Q I rx ry ⟨a, b, xs, ys, rfl, rfl, SqT.of ha, SqT.of hb, sz (by omega), fun e => q b H (Same.refl H) ?_, fun _ e => q a H (Same.refl H) ?_, fun _ _ p np => q p _ (smN np) upd_same⟩
  · rw [hb, e]; rfl
  · rw [ha, e, List.append_nil]
/-- t[lo:hi] -/
def rSlS : V → Option Int → Option Int → Hp → VK → Prop := fun x lo hi H Q => ∃ a xs, x = .ref a ∧ H a = some (.tup xs) ∧ ∀ p H', Same H H' → H' p = some (.tup (cutV xs lo hi)) → Q (.ref p) H'
theorem sl_tupS : SlR X rSlS := by
  intro pins s σ H x v vl vu lo hi sl Q I rx hs pl pu h
  obtain ⟨a, xs, rfl, ha, q⟩ := h
  refine sl_tupA pins s σ H _ v vl vu lo hi sl Q I rx hs pl pu ⟨a, xs, rfl, SqT.of ha, fun hw => q a H (Same.refl H) ?_, fun _ p np => q p _ (smN np) upd_same⟩
  rw [ha]
  unfold cutV
  rw [hw.1, hw.2, List.drop_zero, Nat.sub_zero, List.take_length]
end
theorem cut_lo {xs : List V} {m : Nat} (h : m ≤ xs.length) : cutV xs none (some (m : Int)) = xs.take m := by
  unfold cutV
  rw [HT.sIx_none, HT.sIx_nat, List.drop_zero, Nat.sub_zero, Nat.min_eq_left h]
theorem cut_hi {xs : List V} {m : Nat} (h : m ≤ xs.length) : cutV xs (some (m : Int)) none = xs.drop m := by
  unfold cutV
  rw [HT.sIx_none, HT.sIx_nat, Nat.min_eq_left h, List.take_of_length_le (by rw [List.length_drop]; omega)]
theorem set_cut {xs : List V} {m : Nat} {v : V} (h : m < xs.length) : xs.take m ++ [v] ++ xs.drop (m + 1) = xs.set m v := by
  rw [List.set_eq_take_append_cons_drop, if_pos h, List.append_assoc]
  rfl
end Rt
namespace Dl
open PySem PySem.Spec PyProof.Rows L2 Rt
abbrev D := PyData
/-! ### data at values -/
def TupF (H : Hp) (a : Addr) (xs : List V) : Prop := ∃ o : Obj, H a = some (.frz o (.tup xs)) ∧ o.dict = none
/-- a key as data -/
def kD : Key → D
  | .inl i => .int i
  | .inr x => .str x
/-- a dict whose keys are tuples, of numbers -/
def dtV (kvs : List (List Key × Int)) : List (List Key × V) := kvs.map fun z => (z.1, .int z.2)
def dtD (kvs : List (List Key × Int)) : List (D × D) := kvs.map fun z => (.tuple (z.1.map kD), .int z.2)
mutual
inductive Rp (M : Addr → Prop) (H : Hp) : V → D → Prop
  | non : Rp M H .non .none
  | bl (b : Bool) : Rp M H (.bl b) (.bool b)
  | int (i : Int) : Rp M H (.int i) (.int i)
  | str (x : Str) (h : x.length ≤ sizeLine) : Rp M H (.str x) (.str x)
  | tup {a : Addr} {xs : List V} {ds : List D} : TupF H a xs → ¬ M a → xs.length ≤ sizeLine → RpAll M H xs ds → Rp M H (.ref a) (.tuple ds)
  | lst {a : Addr} {xs : List V} {ds : List D} : H a = some (.lst xs) → ¬ M a → xs.length ≤ sizeLine → RpAll M H xs ds → Rp M H (.ref a) (.list ds)
  | dic {a : Addr} {kvs : List (Key × V)} {es : List (D × D)} : H a = some (.dK kvs) → ¬ M a → RpKV M H kvs es → Rp M H (.ref a) (.dict es)
  | dct {a : Addr} {kvs : List (List Key × Int)} {es : List (D × D)} : H a = some (.dT (dtV kvs)) → ¬ M a → es = dtD kvs → Rp M H (.ref a) (.dict es)
inductive RpKV (M : Addr → Prop) (H : Hp) : List (Key × V) → List (D × D) → Prop
  | nil : RpKV M H [] []
  | cons {k : Key} {v : V} {kvs : List (Key × V)} {d : D} {es : List (D × D)} : Rp M H v d → RpKV M H kvs es → RpKV M H ((k, v) :: kvs) ((kD k, d) :: es)
inductive RpAll (M : Addr → Prop) (H : Hp) : List V → List D → Prop
  | nil : RpAll M H [] []
  | cons {v : V} {vs : List V} {d : D} {ds : List D} : Rp M H v d → RpAll M H vs ds → RpAll M H (v :: vs) (d :: ds)
end
def KpM (M : Addr → Prop) (H H' : Hp) : Prop := ∀ p o, ¬ M p → H p = some o → H' p = some o
theorem KpM.of {M : Addr → Prop} {H H' : Hp} (s : Same H H') : KpM M H H' := fun p o _ e => s p o e
theorem KpM.refl {M : Addr → Prop} {H : Hp} : KpM M H H := fun p o _ e => e
def Dom (M : Addr → Prop) (H : Hp) : Prop := ∀ p, M p → H p ≠ none
theorem Dom.mono {M : Addr → Prop} {H H' : Hp} (d : Dom M H) (s : Same H H') : Dom M H' := fun p m e => by
  cases z : H p with
  | none => exact d p m z
  | some o => rw [s p o z] at e; cases e
theorem Dom.not {M : Addr → Prop} {H : Hp} {p : Addr} (d : Dom M H) (e : H p = none) : ¬ M p := fun m => d p m e
mutual
theorem Rp.mono {M : Addr → Prop} {H H' : Hp} (k : KpM M H H') : ∀ {v : V} {d : D}, Rp M H v d → Rp M H' v d
  | _, _, .non => .non
  | _, _, .bl b => .bl b
  | _, _, .int i => .int i
  | _, _, .str x h => .str x h
  | _, _, .tup ⟨o, e, z⟩ n l h => .tup ⟨o, k _ _ n e, z⟩ n l (RpAll.mono k h)
  | _, _, .lst e n l h => .lst (k _ _ n e) n l (RpAll.mono k h)
  | _, _, .dic e n h => .dic (k _ _ n e) n (RpKV.mono k h)
  | _, _, .dct e n z => .dct (k _ _ n e) n z
theorem RpKV.mono {M : Addr → Prop} {H H' : Hp} (k : KpM M H H') : ∀ {vs : List (Key × V)} {ds : List (D × D)}, RpKV M H vs ds → RpKV M H' vs ds
  | _, _, .nil => .nil
  | _, _, .cons h t => .cons (Rp.mono k h) (RpKV.mono k t)
theorem RpAll.mono {M : Addr → Prop} {H H' : Hp} (k : KpM M H H') : ∀ {vs : List V} {ds : List D}, RpAll M H vs ds → RpAll M H' vs ds
  | _, _, .nil => .nil
  | _, _, .cons h t => .cons (Rp.mono k h) (RpAll.mono k t)
end
mutual
theorem Rp.reM {M M' : Addr → Prop} {H : Hp} (k : ∀ a, M' a → M a ∨ H a = none) : ∀ {v : V} {d : D}, Rp M H v d → Rp M' H v d
  | _, _, .non => .non
  | _, _, .bl b => .bl b
  | _, _, .int i => .int i
  | _, _, .str x h => .str x h
  | _, _, .tup ⟨o, e, z⟩ n l h => .tup ⟨o, e, z⟩ (fun m => (k _ m).elim n (fun q => by rw [q] at e; cases e)) l (RpAll.reM k h)
  | _, _, .lst e n l h => .lst e (fun m => (k _ m).elim n (fun q => by rw [q] at e; cases e)) l (RpAll.reM k h)
  | _, _, .dic e n h => .dic e (fun m => (k _ m).elim n (fun q => by rw [q] at e; cases e)) (RpKV.reM k h)
  | _, _, .dct e n z => .dct e (fun m => (k _ m).elim n (fun q => by rw [q] at e; cases e)) z
theorem RpKV.reM {M M' : Addr → Prop} {H : Hp} (k : ∀ a, M' a → M a ∨ H a = none) : ∀ {vs : List (Key × V)} {ds : List (D × D)}, RpKV M H vs ds → RpKV M' H vs ds
  | _, _, .nil => .nil
  | _, _, .cons h t => .cons (Rp.reM k h) (RpKV.reM k t)
theorem RpAll.reM {M M' : Addr → Prop} {H : Hp} (k : ∀ a, M' a → M a ∨ H a = none) : ∀ {vs : List V} {ds : List D}, RpAll M H vs ds → RpAll M' H vs ds
  | _, _, .nil => .nil
  | _, _, .cons h t => .cons (Rp.reM k h) (RpAll.reM k t)
end
theorem TupF.sq {K : PySem.W.Frag} {H : Hp} {a : Addr} {xs : List V} (h : TupF H a xs) : SqT K H a xs := by
  obtain ⟨o, e, _⟩ := h
  exact .inl (.inr ⟨o, e⟩)
mutual
theorem Rp.dp {K : PySem.W.Frag} {M : Addr → Prop} {H : Hp} : ∀ {v : V} {d : D}, Rp M H v d → d.hasDict = false → Dp K H v d
  | _, _, .non, _ => .non
  | _, _, .bl b, _ => .bl b
  | _, _, .int i, _ => .int i
  | _, _, .str x h, _ => .str x
  | _, _, .tup t n l h, e => .tup t.sq (RpAll.dp h e)
  | _, _, .lst t n l h, e => .lst (SqL.of t) (RpAll.dp h e)
  | _, _, .dic t n h, e => nomatch e
  | _, _, .dct t n h, e => nomatch e
theorem RpAll.dp {K : PySem.W.Frag} {M : Addr → Prop} {H : Hp} : ∀ {vs : List V} {ds : List D}, RpAll M H vs ds → PyData.hasDictAll ds = false → DpAll K H vs ds
  | _, _, .nil, _ => .nil
  | _, _, .cons h t, e => by
    have e2 := Bool.or_eq_false_iff.mp e
    exact .cons (Rp.dp h e2.1) (RpAll.dp t e2.2)
end
theorem RpAll.len {M : Addr → Prop} {H : Hp} : ∀ {vs : List V} {ds : List D}, RpAll M H vs ds → vs.length = ds.length
  | _, _, .nil => rfl
  | _, _, .cons _ t => congrArg (· + 1) t.len
theorem RpAll.get {M : Addr → Prop} {H : Hp} : ∀ {vs : List V} {ds : List D} {i : Nat} {d : D}, RpAll M H vs ds → ds[i]? = some d → ∃ v, vs[i]? = some v ∧ Rp M H v d
  | _, _, _, _, .nil, e => nomatch e
  | _, _, 0, _, .cons h t, e => by cases e; exact ⟨_, rfl, h⟩
  | _, _, i + 1, _, .cons h t, e => t.get (i := i) e
theorem RpAll.getV {M : Addr → Prop} {H : Hp} : ∀ {vs : List V} {ds : List D} {i : Nat} {v : V}, RpAll M H vs ds → vs[i]? = some v → ∃ d, ds[i]? = some d ∧ Rp M H v d
  | _, _, _, _, .nil, e => nomatch e
  | _, _, 0, _, .cons h t, e => by cases e; exact ⟨_, rfl, h⟩
  | _, _, i + 1, _, .cons h t, e => t.getV (i := i) e
theorem RpAll.app {M : Addr → Prop} {H : Hp} : ∀ {vs ws : List V} {ds es : List D}, RpAll M H vs ds → RpAll M H ws es → RpAll M H (vs ++ ws) (ds ++ es)
  | _, _, _, _, .nil, b => b
  | _, _, _, _, .cons h t, b => .cons h (t.app b)
theorem RpAll.drop {M : Addr → Prop} {H : Hp} : ∀ {vs : List V} {ds : List D} (n : Nat), RpAll M H vs ds → RpAll M H (vs.drop n) (ds.drop n)
  | _, _, 0, h => h
  | _, _, n + 1, .nil => .nil
  | _, _, n + 1, .cons h t => t.drop n
theorem RpAll.take {M : Addr → Prop} {H : Hp} : ∀ {vs : List V} {ds : List D} (n : Nat), RpAll M H vs ds → RpAll M H (vs.take n) (ds.take n)
  | _, _, 0, h => .nil
  | _, _, n + 1, .nil => .nil
  | _, _, n + 1, .cons h t => .cons h (t.take n)
theorem RpAll.set {M : Addr → Prop} {H : Hp} {v : V} {d : D} (h : Rp M H v d) : ∀ {vs : List V} {ds : List D} (n : Nat), RpAll M H vs ds → RpAll M H (vs.set n v) (ds.set n d)
  | _, _, n, .nil => .nil
  | _, _, 0, .cons _ t => .cons h t
  | _, _, n + 1, .cons g t => .cons g (RpAll.set h n t)
/-! ### the slots -/
inductive LV
  | dat (d : D)
  | own (ds : List D)
  | raw (v : V)
  | pool
abbrev Rho := List (Option LV)
/-- what may not be part of data: the caller's own lists, and the def's -/
def Mu (μ : Bool) (M0 : Addr → Prop) (σ : L2.St) (ρ : Rho) (p : Addr) : Prop := M0 p ∨ (μ = true ∧ ∃ (i : Nat) (ds : List D), ρ[i]? = some (some (.own ds)) ∧ σ[i]? = some (some (.ref p)))
structure Rs (M0 : Addr → Prop) (H0 H : Hp) (σ : L2.St) (ρ : Rho) : Prop where
  sm : Same H0 H
  dom : Dom M0 H0
  len : ρ.length = σ.length
  dat : ∀ (i : Nat) (d : D), ρ[i]? = some (some (.dat d)) → ∃ v, σ[i]? = some (some v) ∧ Rp (Mu true M0 σ ρ) H v d
  own : ∀ (i : Nat) (ds : List D), ρ[i]? = some (some (.own ds)) → ∃ p vs, σ[i]? = some (some (.ref p)) ∧ H p = some (.lst vs) ∧ H0 p = none ∧ vs.length ≤ sizeLine ∧ RpAll (Mu true M0 σ ρ) H vs ds
  raw : ∀ (i : Nat) (v : V), ρ[i]? = some (some (.raw v)) → σ[i]? = some (some v)
  inj : ∀ (i j : Nat) (a b : List D) (p : Addr), ρ[i]? = some (some (.own a)) → ρ[j]? = some (some (.own b)) → σ[i]? = some (some (.ref p)) → σ[j]? = some (some (.ref p)) → i = j
theorem Rs.mono {M0 : Addr → Prop} {H0 H H' : Hp} {σ : L2.St} {ρ : Rho} (R : Rs M0 H0 H σ ρ) (s : Same H H') : Rs M0 H0 H' σ ρ where
  sm := R.sm.trans s
  dom := R.dom
  len := R.len
  dat := fun i d e => by
    obtain ⟨v, a, b⟩ := R.dat i d e
    exact ⟨v, a, b.mono (.of s)⟩
  own := fun i ds e => by
    obtain ⟨p, vs, a, b, c, l, r⟩ := R.own i ds e
    exact ⟨p, vs, a, s _ _ b, c, l, r.mono (.of s)⟩
  raw := R.raw
  inj := R.inj
theorem Rs.domu {M0 : Addr → Prop} {H0 H : Hp} {σ : L2.St} {ρ : Rho} (R : Rs M0 H0 H σ ρ) (μ : Bool) : Dom (Mu μ M0 σ ρ) H := fun p m e => by
  rcases m with m | ⟨_, i, ds, e1, e2⟩
  · exact R.dom.mono R.sm p m e
  · obtain ⟨q, vs, a, b, _⟩ := R.own i ds e1
    rw [e2] at a
    cases a
    rw [b] at e
    cases e
theorem Mu.up {μ : Bool} {M0 : Addr → Prop} {σ : L2.St} {ρ : Rho} {H : Hp} : ∀ a, Mu μ M0 σ ρ a → Mu true M0 σ ρ a ∨ H a = none := fun a m => .inl (by
  rcases m with m | ⟨_, m⟩
  · exact .inl m
  · exact .inr ⟨rfl, m⟩)
theorem Mu.lo {μ : Bool} {M0 : Addr → Prop} {σ : L2.St} {ρ : Rho} {H : Hp} : ∀ a, M0 a → Mu μ M0 σ ρ a ∨ H a = none := fun a m => .inl (.inl m)
theorem Rp.toMu {μ : Bool} {M0 : Addr → Prop} {σ : L2.St} {ρ : Rho} {H : Hp} {v : V} {d : D} (h : Rp (Mu true M0 σ ρ) H v d) : Rp (Mu μ M0 σ ρ) H v d := h.reM Mu.up
theorem RpAll.toMu {μ : Bool} {M0 : Addr → Prop} {σ : L2.St} {ρ : Rho} {H : Hp} {v : List V} {d : List D} (h : RpAll (Mu true M0 σ ρ) H v d) : RpAll (Mu μ M0 σ ρ) H v d := h.reM Mu.up
theorem some_bind {α β : Type} {o : Option α} {f : α → Option β} {b : β} (h : o.bind f = some b) : ∃ a, o = some a ∧ f a = some b := by
  cases o with
  | none => cases h
  | some a => exact ⟨a, rfl, h⟩
mutual
def nl : D → Bool
  | .tuple ds => nlAll ds
  | .list _ => false
  | .dict _ => false
  | _ => true
def nlAll : List D → Bool
  | [] => true
  | d :: ds => nl d && nlAll ds
end
mutual
theorem Rp.nl {M M' : Addr → Prop} {H : Hp} : ∀ {v : V} {d : D}, Rp M H v d → Dl.nl d = true → (∀ a, M' a → M a ∨ ∃ xs, H a = some (.lst xs)) → Rp M' H v d
  | _, _, .non, _, _ => .non
  | _, _, .bl b, _, _ => .bl b
  | _, _, .int i, _, _ => .int i
  | _, _, .str x h, _, _ => .str x h
  | _, _, .tup ⟨o, e, z⟩ n l h, q, k => .tup ⟨o, e, z⟩ (fun m => (k _ m).elim n (fun ⟨xs, y⟩ => by rw [y] at e; cases e)) l (RpAll.nl h q k)
  | _, _, .lst e n l h, q, k => nomatch q
  | _, _, .dic e n h, q, k => nomatch q
  | _, _, .dct e n h, q, k => nomatch q
theorem RpAll.nl {M M' : Addr → Prop} {H : Hp} : ∀ {vs : List V} {ds : List D}, RpAll M H vs ds → nlAll ds = true → (∀ a, M' a → M a ∨ ∃ xs, H a = some (.lst xs)) → RpAll M' H vs ds
  | _, _, .nil, _, _ => .nil
  | _, _, .cons h t, q, k => by
    have q2 := Bool.and_eq_true_iff.mp q
    exact .cons (Rp.nl h q2.1 k) (RpAll.nl t q2.2 k)
end
/-! ### readings by data -/
abbrev EF := Rho → Option D
def tD (μ : Bool) (f : EF) : TE := fun σ H Q => ∃ M0 H0 ρ d, Rs M0 H0 H σ ρ ∧ f ρ = some d ∧ ∀ v H', Same H H' → Rp (Mu μ M0 σ ρ) H' v d → Q v H'
def tA (μ : Bool) (f : Rho → Option (List D)) : TA := fun σ H Q => ∃ M0 H0 ρ ds, Rs M0 H0 H σ ρ ∧ f ρ = some ds ∧ ∀ vs H', Same H H' → RpAll (Mu μ M0 σ ρ) H' vs ds → Q vs H'
def tT (f : Rho → Option Bool) : TT := fun σ H Q => ∃ M0 H0 ρ b, Rs M0 H0 H σ ρ ∧ f ρ = some b ∧ ∀ H', Same H H' → Q b H'
inductive Out
  | nx (ρ : Rho)
  | rt (d : D)
  | bk (ρ : Rho)
  | ct (ρ : Rho)
/-- a step: what is nobody's own stands, own lists are old ones or new -/
structure Stp (M0 : Addr → Prop) (σ : L2.St) (ρ : Rho) (H : Hp) (σ' : L2.St) (ρ' : Rho) (H' : Hp) : Prop where
  kp : KpM (Mu true M0 σ ρ) H H'
  ow : ∀ p, Mu true M0 σ' ρ' p → Mu true M0 σ ρ p ∨ H p = none
theorem Stp.refl {M0 : Addr → Prop} {σ : L2.St} {ρ : Rho} {H : Hp} : Stp M0 σ ρ H σ ρ H := ⟨.refl, fun p m => .inl m⟩
theorem Stp.trans {M0 : Addr → Prop} {σ σ1 σ2 : L2.St} {ρ ρ1 ρ2 : Rho} {H H1 H2 : Hp} (a : Stp M0 σ ρ H σ1 ρ1 H1) (b : Stp M0 σ1 ρ1 H1 σ2 ρ2 H2) : Stp M0 σ ρ H σ2 ρ2 H2 where
  kp := fun p o n e => b.kp p o (fun m => (a.ow p m).elim n (fun z => by rw [z] at e; cases e)) (a.kp p o n e)
  ow := fun p m => by
    rcases b.ow p m with m1 | z
    · exact a.ow p m1
    · by_cases h : Mu true M0 σ ρ p
      · exact .inl h
      · cases e : H p with
        | none => exact .inr rfl
        | some o => rw [a.kp p o h e] at z; cases z
def tS (f : Rho → Option Out) : TS := fun Dn σ H => ∃ M0 H0 ρ o, Rs M0 H0 H σ ρ ∧ f ρ = some o ∧ (match o with
  | .nx ρ' => ∀ σ' H', Rs M0 H0 H' σ' ρ' → Stp M0 σ ρ H σ' ρ' H' → Dn.nx σ' H'
  | .rt d => ∀ v H', Same H0 H' → Rp M0 H' v d → Dn.rt v H'
  | .bk ρ' => ∀ σ' H', Rs M0 H0 H' σ' ρ' → Stp M0 σ ρ H σ' ρ' H' → Dn.bk σ' H'
  | .ct ρ' => ∀ σ' H', Rs M0 H0 H' σ' ρ' → Stp M0 σ ρ H σ' ρ' H' → Dn.ct σ' H')
section
variable {X : Cx}
theorem _root_.L2.PE.wk {e : Expr} {t t' : TE} (h : PE X e t) (m : ∀ σ H Q, t' σ H Q → t σ H Q) : PE X e t' := ⟨fun pn s σ H Q I q => h.run pn s σ H Q I (m _ _ _ q)⟩
theorem _root_.L2.PT.wk {e : Expr} {t t' : TT} (h : PT X e t) (m : ∀ σ H Q, t' σ H Q → t σ H Q) : PT X e t' := ⟨fun pn s σ H Q I q => h.run pn s σ H Q I (m _ _ _ q)⟩
theorem _root_.L2.PW.wk {e : Expr} {t t' : TT} (h : PW X e t) (m : ∀ σ H Q, t' σ H Q → t σ H Q) : PW X e t' := ⟨fun wh pn s σ H Q I q => h.run wh pn s σ H Q I (m _ _ _ q)⟩
theorem _root_.L2.PI.wk {tg e : Expr} {t t' : TI} (h : PI X tg e t) (m : ∀ σ H Q, t' σ H Q → t σ H Q) : PI X tg e t' := ⟨fun pn s σ H Q I q => h.run pn s σ H Q I (m _ _ _ q)⟩
theorem _root_.L2.PS.wk {st : Stmt} {t t' : TS} (h : PS X st t) (m : ∀ D σ H, t' D σ H → t D σ H) : PS X st t' := ⟨fun pn s σ H Q I q => h.run pn s σ H Q I (m _ _ _ q)⟩
theorem _root_.L2.PSs.wk {st : List Stmt} {t t' : TS} (h : PSs X st t) (m : ∀ D σ H, t' D σ H → t D σ H) : PSs X st t' := ⟨fun pn s σ H Q I q => h.run pn s σ H Q I (m _ _ _ q)⟩
/-! names and constants -/
def eVar (i : Nat) : EF := fun ρ => match ρ[i]? with | some (some (.dat d)) => some d | _ => none
def eOwn (i : Nat) : EF := fun ρ => match ρ[i]? with | some (some (.own ds)) => some (.list ds) | _ => none
theorem dE_var {e : Expr} {i : Nat} {μ : Bool} (h : PE X e (tVar i)) : PE X e (tD μ (eVar i)) := h.wk fun σ H Q q => by
  obtain ⟨M0, H0, ρ, d, R, e, q⟩ := q
  unfold eVar at e
  split at e
  · rename_i d' z
    cases e
    obtain ⟨v, a, b⟩ := R.dat i _ z
    exact ⟨v, a, q v H (Same.refl _) b.toMu⟩
  · cases e
theorem dE_own {e : Expr} {i : Nat} (h : PE X e (tVar i)) : PE X e (tD false (eOwn i)) := h.wk fun σ H Q q => by
  obtain ⟨M0, H0, ρ, d, R, e, q⟩ := q
  unfold eOwn at e
  split at e
  · rename_i ds z
    cases e
    obtain ⟨p, vs, a, b, c, l, r⟩ := R.own i _ z
    refine ⟨.ref p, a, q _ H (Same.refl _) (.lst b (fun m => ?_) l r.toMu)⟩
    rcases m with m | ⟨m, _⟩
    · exact R.dom p m c
    · cases m
  · cases e
def eC (d : D) : EF := fun _ => some d
def cD : V → Option D
  | .non => some .none
  | .bl b => some (.bool b)
  | .int i => some (.int i)
  | .str x => if x.length ≤ sizeLine then some (.str x) else none
  | _ => none
theorem cD.rp {M : Addr → Prop} {H : Hp} {v : V} {d : D} (h : cD v = some d) : Rp M H v d := by
  cases v with
  | str x =>
    by_cases e : x.length ≤ sizeLine
    · have h : (if x.length ≤ sizeLine then some (PyData.str x) else none) = some d := h
      rw [if_pos e] at h
      cases h
      exact .str x e
    · have h : (if x.length ≤ sizeLine then some (PyData.str x) else none) = some d := h
      rw [if_neg e] at h
      cases h
  | _ => cases h <;> constructor
theorem dE_c {e : Expr} {v : V} {d : D} {μ : Bool} (h : PE X e (tC v)) (hd : cD v = some d := by rfl) : PE X e (tD μ (eC d)) := h.wk fun σ H Q q => by
  obtain ⟨M0, H0, ρ, d', R, e, q⟩ := q
  cases e
  exact q v H (Same.refl _) (cD.rp hd)
/-- a list of one's own may be left out of what is told, where no list is in it -/
def eStr (f : EF) : EF := fun ρ => (f ρ).bind fun d => if nl d = true then some d else none
theorem dE_str {e : Expr} {f : EF} (h : PE X e (tD false f)) : PE X e (tD true (eStr f)) := h.wk fun σ H Q q => by
  obtain ⟨M0, H0, ρ, d, R, e, q⟩ := q
  obtain ⟨d', z, e⟩ := some_bind e
  split at e
  · rename_i hnl
    cases e
    refine ⟨M0, H0, ρ, _, R, z, fun v H' s r => q v H' s (r.nl hnl fun a m => ?_)⟩
    rcases m with m | ⟨_, i, ds, e1, e2⟩
    · exact .inl (.inl m)
    · obtain ⟨p, vs, x, y, _⟩ := (R.mono s).own i ds e1
      rw [e2] at x
      cases x
      exact .inr ⟨_, y⟩
  · cases e
/-! operators -/
def rD (g : D → D → Option D) : R2 := fun x y H Q => ∃ M a b d, Dom M H ∧ Rp M H x a ∧ Rp M H y b ∧ g a b = some d ∧ ∀ v H', Same H H' → Rp M H' v d → Q v H'
def e2 (g : D → D → Option D) (f1 f2 : EF) : EF := fun ρ => (f1 ρ).bind fun a => (f2 ρ).bind fun b => g a b
theorem dOp2 {g : D → D → Option D} {f1 f2 : EF} {μ : Bool} {σ : L2.St} {H : Hp} {Q : VK} (q : tD μ (e2 g f1 f2) σ H Q) : tOp (rD g) (tD μ f1) (tD μ f2) σ H Q := by
  obtain ⟨M0, H0, ρ, d, R, e, q⟩ := q
  obtain ⟨a, ea, e⟩ := some_bind e
  obtain ⟨b, eb, e⟩ := some_bind e
  exact ⟨M0, H0, ρ, a, R, ea, fun x H1 s1 r1 => ⟨M0, H0, ρ, b, R.mono s1, eb, fun y H2 s2 r2 => ⟨_, a, b, d, (R.mono (s1.trans s2)).domu μ, r1.mono (.of s2), r2, e, fun v H3 s3 r3 => q v H3 ((s1.trans s2).trans s3) r3⟩⟩⟩
theorem dE_op {a b : Expr} {op : Operator} {pos : Pos} {g : D → D → Option D} {f1 f2 : EF} {μ : Bool} (o : OpR X (binaryOp op) (rD g)) (ha : PE X a (tD μ f1)) (hb : PE X b (tD μ f2)) : PE X (.BinOp a op b pos) (tD μ (e2 g f1 f2)) := (pe_op o ha hb).wk fun _ _ _ q => dOp2 q
theorem dE_cmp {a b : Expr} {op : CmpOp} {pos : Pos} {g : D → D → Option D} {f1 f2 : EF} {μ : Bool} (o : OpR X (compareOp op) (rD g)) (ha : PE X a (tD μ f1)) (hb : PE X b (tD μ f2)) (hm : behindInMarks op b = false) : PE X (.Compare a [op] [b] pos) (tD μ (e2 g f1 f2)) := (pe_cmpR o ha hb hm).wk fun _ _ _ q => dOp2 q
def bB : D → Option Bool
  | .bool b => some b
  | _ => none
theorem Rp.ofB {M : Addr → Prop} {H : Hp} {v : V} {d : D} {b : Bool} (r : Rp M H v d) (h : bB d = some b) : v = .bl b := by
  cases r <;> cases h
  rfl
def oB (f : EF) : Rho → Option Bool := fun ρ => (f ρ).bind bB
theorem dTest {f : EF} {μ : Bool} {σ : L2.St} {H : Hp} {Q : Bool → Hp → Prop} (q : tT (oB f) σ H Q) : tD μ f σ H (fun x H1 => ∃ c, x = V.bl c ∧ Q c H1) := by
  obtain ⟨M0, H0, ρ, b, R, e, q⟩ := q
  obtain ⟨d, ed, e⟩ := some_bind e
  exact ⟨M0, H0, ρ, d, R, ed, fun v H1 s r => ⟨b, r.ofB e, q _ s⟩⟩
theorem dT_cmp {a b : Expr} {op : CmpOp} {pos : Pos} {g : D → D → Option D} {f1 f2 : EF} {μ : Bool} (o : OpR X (compareOp op) (rD g)) (ha : PE X a (tD μ f1)) (hb : PE X b (tD μ f2)) (hm : behindInMarks op b = false) : PT X (.Compare a [op] [b] pos) (tT (oB (e2 g f1 f2))) := (pt_cmpR o ha hb hm).wk fun σ H Q q => by
  have := dTest (μ := μ) q
  exact dOp2 this
theorem dT_val {e : Expr} {f : EF} {μ : Bool} (h : PE X e (tD μ f)) (ht : ∀ (whole : Sem Value), PySem.isTrue e X.env whole = (do
          let v ← whole
          standAt e.pos
          holding [v] (truthy v)) := by intro _; rfl) : PT X e (tT (oB f)) := (pt_val h ht).wk fun σ H Q q => dTest q
def oNot (f : Rho → Option Bool) : Rho → Option Bool := fun ρ => (f ρ).map (!·)
theorem dT_not {a : Expr} {pos : Pos} {f : Rho → Option Bool} (h : PT X a (tT f)) : PT X (.UnaryOp .Not a pos) (tT (oNot f)) := (pt_not h).wk fun σ H Q q => by
  obtain ⟨M0, H0, ρ, b, R, e, q⟩ := q
  unfold oNot at e
  cases z : f ρ with
  | none => rw [z] at e; cases e
  | some c => rw [z] at e; cases e; exact ⟨M0, H0, ρ, c, R, z, q⟩
def oAnd (f g : Rho → Option Bool) : Rho → Option Bool := fun ρ => (f ρ).bind fun b => if b = true then g ρ else some false
def oOr (f g : Rho → Option Bool) : Rho → Option Bool := fun ρ => (f ρ).bind fun b => if b = true then some true else g ρ
theorem dW_and1 {a : Expr} {pos : Pos} {f : Rho → Option Bool} (h : PT X a (tT f)) : PW X (.BoolOp .And [a] pos) (tT f) := pw_and1 h
theorem dW_or1 {a : Expr} {pos : Pos} {f : Rho → Option Bool} (h : PT X a (tT f)) : PW X (.BoolOp .Or [a] pos) (tT f) := pw_or1 h
theorem dW_and {a b : Expr} {rest : List Expr} {pos : Pos} {f g : Rho → Option Bool} (ha : PT X a (tT f)) (hb : PW X (.BoolOp .And (b :: rest) pos) (tT g)) : PW X (.BoolOp .And (a :: b :: rest) pos) (tT (oAnd f g)) := (pw_and ha hb).wk fun σ H Q q => by
  obtain ⟨M0, H0, ρ, b, R, e, q⟩ := q
  obtain ⟨c, ec, e⟩ := some_bind e
  refine ⟨M0, H0, ρ, c, R, ec, fun H1 s1 => ?_⟩
  cases c with
  | true => exact ⟨M0, H0, ρ, b, R.mono s1, e, fun H2 s2 => q H2 (s1.trans s2)⟩
  | false => cases e; exact q H1 s1
theorem dW_or {a b : Expr} {rest : List Expr} {pos : Pos} {f g : Rho → Option Bool} (ha : PT X a (tT f)) (hb : PW X (.BoolOp .Or (b :: rest) pos) (tT g)) : PW X (.BoolOp .Or (a :: b :: rest) pos) (tT (oOr f g)) := (pw_or ha hb).wk fun σ H Q q => by
  obtain ⟨M0, H0, ρ, b, R, e, q⟩ := q
  obtain ⟨c, ec, e⟩ := some_bind e
  refine ⟨M0, H0, ρ, c, R, ec, fun H1 s1 => ?_⟩
  cases c with
  | true => cases e; exact q H1 s1
  | false => exact ⟨M0, H0, ρ, b, R.mono s1, e, fun H2 s2 => q H2 (s1.trans s2)⟩
/-! and, or, not, if as values -/
def eAnd (f g : EF) : EF := fun ρ => ((f ρ).bind bB).bind fun b => if b = true then g ρ else some (.bool false)
def eOr (f g : EF) : EF := fun ρ => ((f ρ).bind bB).bind fun b => if b = true then some (.bool true) else g ρ
theorem dE_one {a : Expr} {op : BoolOp} {pos : Pos} {f : EF} {μ : Bool} (h : PE X a (tD μ f)) : PE X (.BoolOp op [a] pos) (tD μ f) := pe_one h
theorem dE_and {a b : Expr} {rest : List Expr} {pos : Pos} {f g : EF} {μ : Bool} (ha : PE X a (tD μ f)) (hb : PE X (.BoolOp .And (b :: rest) pos) (tD μ g)) : PE X (.BoolOp .And (a :: b :: rest) pos) (tD μ (eAnd f g)) := (pe_and ha hb).wk fun σ H Q q => by
  obtain ⟨M0, H0, ρ, d, R, e, q⟩ := q
  obtain ⟨c, ec, e⟩ := some_bind e
  obtain ⟨d1, e1, ec⟩ := some_bind ec
  refine ⟨M0, H0, ρ, d1, R, e1, fun v H1 s1 r1 => ⟨c, r1.ofB ec, ?_⟩⟩
  cases c with
  | true => exact ⟨M0, H0, ρ, d, R.mono s1, e, fun v H2 s2 => q v H2 (s1.trans s2)⟩
  | false => cases e; exact q _ H1 s1 (.bl _)
theorem dE_or {a b : Expr} {rest : List Expr} {pos : Pos} {f g : EF} {μ : Bool} (ha : PE X a (tD μ f)) (hb : PE X (.BoolOp .Or (b :: rest) pos) (tD μ g)) : PE X (.BoolOp .Or (a :: b :: rest) pos) (tD μ (eOr f g)) := (pe_or ha hb).wk fun σ H Q q => by
  obtain ⟨M0, H0, ρ, d, R, e, q⟩ := q
  obtain ⟨c, ec, e⟩ := some_bind e
  obtain ⟨d1, e1, ec⟩ := some_bind ec
  refine ⟨M0, H0, ρ, d1, R, e1, fun v H1 s1 r1 => ⟨c, r1.ofB ec, ?_⟩⟩
  cases c with
  | true => cases e; exact q _ H1 s1 (.bl _)
  | false => exact ⟨M0, H0, ρ, d, R.mono s1, e, fun v H2 s2 => q v H2 (s1.trans s2)⟩
def eNot (f : EF) : EF := fun ρ => ((f ρ).bind bB).map fun b => .bool (!b)
theorem dE_not {a : Expr} {pos : Pos} {f : EF} {μ : Bool} (h : PE X a (tD μ f)) : PE X (.UnaryOp .Not a pos) (tD μ (eNot f)) := (pe_not h).wk fun σ H Q q => by
  obtain ⟨M0, H0, ρ, d, R, e, q⟩ := q
  unfold eNot at e
  cases z : (f ρ).bind bB with
  | none => rw [z] at e; cases e
  | some c =>
    rw [z] at e
    cases e
    obtain ⟨d1, e1, ec⟩ := some_bind z
    exact ⟨M0, H0, ρ, d1, R, e1, fun v H1 s1 r1 => ⟨c, r1.ofB ec, q _ _ s1 (.bl _)⟩⟩
/-- truth of data -/
def trD : D → Option Bool
  | .none => some false
  | .bool b => some b
  | .int i => some (i != 0)
  | .tuple ds => some (!ds.isEmpty)
  | .list ds => some (!ds.isEmpty)
  | _ => none
theorem Rp.tru {K : PySem.W.Frag} {M : Addr → Prop} {H : Hp} {v : V} {d : D} {b : Bool} (r : Rp M H v d) (h : trD d = some b) : TruV K v H b := by
  cases r with
  | non => cases h; rfl
  | bl b => cases h; rfl
  | int i => cases h; rfl
  | str x hx => cases h
  | tup t n l a =>
    cases h
    refine .inr (.inl ⟨_, t.sq, ?_⟩)
    cases a <;> rfl
  | lst t n l a =>
    cases h
    refine .inl ⟨_, SqL.of t, ?_⟩
    cases a <;> rfl
  | dic t n => cases h
  | dct t n => cases h
def eOrT (f g : EF) : EF := fun ρ => (f ρ).bind fun d => (trD d).bind fun b => if b = true then some d else g ρ
theorem dE_orT {a b : Expr} {rest : List Expr} {pos : Pos} {f g : EF} {μ : Bool} (ha : PE X a (tD μ f)) (hb : PE X (.BoolOp .Or (b :: rest) pos) (tD μ g)) : PE X (.BoolOp .Or (a :: b :: rest) pos) (tD μ (eOrT f g)) := (pe_orT ha hb).wk fun σ H Q q => by
  obtain ⟨M0, H0, ρ, d, R, e, q⟩ := q
  obtain ⟨d1, e1, e⟩ := some_bind e
  obtain ⟨c, ec, e⟩ := some_bind e
  refine ⟨M0, H0, ρ, d1, R, e1, fun v H1 s1 r1 => ⟨c, r1.tru ec, ?_⟩⟩
  cases c with
  | true => cases e; exact q _ H1 s1 r1
  | false => exact ⟨M0, H0, ρ, d, R.mono s1, e, fun v H2 s2 => q v H2 (s1.trans s2)⟩
def oTr (f : EF) : Rho → Option Bool := fun ρ => (f ρ).bind trD
theorem dT_truth {e : Expr} {f : EF} {μ : Bool} (h : PE X e (tD μ f)) (ht : ∀ (whole : Sem Value), PySem.isTrue e X.env whole = (do
          let v ← whole
          standAt e.pos
          holding [v] (truthy v)) := by intro _; rfl) : PT X e (tT (oTr f)) := (pt_truth h ht).wk fun σ H Q q => by
  obtain ⟨M0, H0, ρ, b, R, e, q⟩ := q
  obtain ⟨d1, e1, e⟩ := some_bind e
  exact ⟨M0, H0, ρ, d1, R, e1, fun v H1 s1 r1 => ⟨b, r1.tru e, q _ s1⟩⟩
def eIf (c : Rho → Option Bool) (f g : EF) : EF := fun ρ => (c ρ).bind fun b => if b = true then f ρ else g ρ
theorem dE_if {a b c : Expr} {pos : Pos} {t : Rho → Option Bool} {f g : EF} {μ : Bool} (hc : PT X c (tT t)) (ha : PE X a (tD μ f)) (hb : PE X b (tD μ g)) : PE X (c.IfExp a b pos) (tD μ (eIf t f g)) := (pe_ifExp hc ha hb).wk fun σ H Q q => by
  obtain ⟨M0, H0, ρ, d, R, e, q⟩ := q
  obtain ⟨c, ec, e⟩ := some_bind e
  refine ⟨M0, H0, ρ, c, R, ec, fun H1 s1 => ?_⟩
  cases c with
  | true => exact ⟨M0, H0, ρ, d, R.mono s1, e, fun v H2 s2 => q v H2 (s1.trans s2)⟩
  | false => exact ⟨M0, H0, ρ, d, R.mono s1, e, fun v H2 s2 => q v H2 (s1.trans s2)⟩
def eChain (g g' : D → D → Option D) (f1 f2 f3 : EF) : EF := fun ρ => (f1 ρ).bind fun a => (f2 ρ).bind fun b => ((g a b).bind bB).bind fun k => if k = true then (f3 ρ).bind fun c => g' b c else some (.bool false)
theorem dChain {g g' : D → D → Option D} {f1 f2 f3 : EF} {μ : Bool} {σ : L2.St} {H : Hp} {Q : VK} (q : tD μ (eChain g g' f1 f2 f3) σ H Q) : tChain (rD g) (rD g') (tD μ f1) (tD μ f2) (tD μ f3) σ H Q := by
  obtain ⟨M0, H0, ρ, d, R, e, q⟩ := q
  obtain ⟨a, ea, e⟩ := some_bind e
  obtain ⟨b, eb, e⟩ := some_bind e
  obtain ⟨k, ek, e⟩ := some_bind e
  obtain ⟨z, ez, ek⟩ := some_bind ek
  refine ⟨M0, H0, ρ, a, R, ea, fun x H1 s1 r1 => ⟨M0, H0, ρ, b, R.mono s1, eb, fun y H2 s2 r2 => ⟨_, a, b, z, (R.mono (s1.trans s2)).domu μ, r1.mono (.of s2), r2, ez, fun v H3 s3 r3 => ⟨k, r3.ofB ek, ?_⟩⟩⟩⟩
  have s13 := (s1.trans s2).trans s3
  cases k with
  | true =>
    obtain ⟨c, ec, e⟩ := some_bind e
    exact ⟨M0, H0, ρ, c, R.mono s13, ec, fun w H4 s4 r4 => ⟨_, b, c, d, (R.mono (s13.trans s4)).domu μ, r2.mono (.of (s3.trans s4)), r4, e, fun v H5 s5 r5 => q v H5 ((s13.trans s4).trans s5) r5⟩⟩
  | false => cases e; exact q _ _ s13 (.bl _)
theorem dE_chain {a b c : Expr} {op op' : CmpOp} {pos : Pos} {g g' : D → D → Option D} {f1 f2 f3 : EF} {μ : Bool} (o : OpR X (compareOp op) (rD g)) (o' : OpR X (compareOp op') (rD g')) (ha : PE X a (tD μ f1)) (hb : PE X b (tD μ f2)) (hc : PE X c (tD μ f3)) (hm : lastMarks [op, op'] [b, c] = false := by rfl) : PE X (a.Compare [op, op'] [b, c] pos) (tD μ (eChain g g' f1 f2 f3)) := (pe_chain o o' ha hb hc hm).wk fun _ _ _ q => dChain q
theorem dT_chain {a b c : Expr} {op op' : CmpOp} {pos : Pos} {g g' : D → D → Option D} {f1 f2 f3 : EF} {μ : Bool} (o : OpR X (compareOp op) (rD g)) (o' : OpR X (compareOp op') (rD g')) (ha : PE X a (tD μ f1)) (hb : PE X b (tD μ f2)) (hc : PE X c (tD μ f3)) (hm : lastMarks [op, op'] [b, c] = false := by rfl) : PT X (a.Compare [op, op'] [b, c] pos) (tT (oB (eChain g g' f1 f2 f3))) := (pt_chain o o' ha hb hc hm).wk fun _ _ _ q => by
  have := dTest (μ := μ) q
  exact dChain this
end
end Dl
namespace Dl
open PySem PySem.Spec PyProof.Rows L2 Rt
section
variable {X : Cx}
/-- a tuple that was made -/
theorem Inv.tupF {pn : List (Addr × Obj)} {σ : L2.St} {H : Hp} {s : Shared} {us : List Value} {xs : List V} (I : L2.Inv X pn σ H s) (r : Vals xs us) (hz : xs.length ≤ sizeLine) :
    L2.Inv X pn σ (upd H s.heap.objs.size (.frz { cls := .type "tuple", data := .seq us.toArray } (.tup xs))) { s with heap := s.heap.push { cls := .type "tuple", data := .seq us.toArray } } :=
  I.laid (t' := s.toks) (fun b o e => Heap.get?_push_of_some _ e) (Nat.le_refl _) (show ObjOk X.prog X.w _ _ _ (.frz { cls := .type "tuple", data := .seq us.toArray } (.tup xs)) from ⟨Heap.get?_push_size _ rfl, hz, us, r, IsTup.new _ _⟩)
theorem updF {H : Hp} {p : Addr} {xs : List V} {us : List Value} : TupF (upd H p (.frz { cls := .type "tuple", data := .seq us.toArray } (.tup xs))) p xs := ⟨_, upd_same, rfl⟩
/-- (a, b) -/
def tTupF (t : TA) : TE := fun σ H Q => t σ H fun xs H1 => xs.length ≤ sizeLine ∧ ∀ p H', H1 p = none → Same H1 H' → TupF H' p xs → Q (.ref p) H'
theorem pe_tupF {es : List Expr} {t : TA} {x1 : Nat} {pos : Pos} (h : PA X es t) : PE X (.Tuple es x1 pos) (tTupF t) :=
  ⟨fun pn s σ H Q I hq => wpAny_Tuple_spliced (thn (h.run pos pn s σ H _ I hq) fun us s1 ⟨xs, H1, I1, r, z, q⟩ => ⟨by rw [← r.length]; exact z, .ref s1.heap.objs.size, _, Inv.tupF I1 r z, rfl, q _ _ (I1.hok.fresh (Nat.le_refl _)) (smN (I1.hok.fresh (Nat.le_refl _))) updF⟩)⟩
/-- t + u -/
def rCatF : R2 := fun x y H Q => ∃ a b xs ys, x = .ref a ∧ y = .ref b ∧ TupF H a xs ∧ TupF H b ys ∧ xs.length + ys.length ≤ sizeLine ∧ ∀ p H', (H p = none ∨ p = a ∨ p = b) → Same H H' → TupF H' p (xs ++ ys) → Q (.ref p) H'
theorem op_catF : OpR X (binaryOp .Add) rCatF := by
  intro pins s σ H x y v u Q I rx ry h
  obtain ⟨a, b, xs, ys, rfl, rfl, ha, hb, hz, q⟩ := h
  by_cases e1 : xs = []
  · subst e1
    exact op_catA pins s σ H _ _ v u Q I rx ry ⟨a, b, [], ys, rfl, rfl, ha.sq, hb.sq, hz, fun e => q b H (.inr (.inr rfl)) (Same.refl H) hb, fun e _ => (e rfl).elim, fun e _ => (e rfl).elim⟩
  by_cases e2 : ys = []
  · subst e2
    refine op_catA pins s σ H _ _ v u Q I rx ry ⟨a, b, xs, [], rfl, rfl, ha.sq, hb.sq, hz, fun e => (e1 e).elim, fun _ _ => q a H (.inr (.inl rfl)) (Same.refl H) (by rw [List.append_nil]; exact ha), fun _ e => (e rfl).elim⟩
  cases rx
  cases ry
  obtain ⟨its, r1, p1, _⟩ := I.tuple (ha.sq (K := X.K))
  obtain ⟨its2, r2, p2, _⟩ := I.tuple (hb.sq (K := X.K))
  refine HT.cat_tup p1 p2 (fun z => e1 (r1.nil_iff.mp z)) (fun z => (e2 (r2.nil_iff.mp z)).elim) (fun z => ?_) (by rw [← r1.length, ← r2.length]; exact hz)
  have fr := I.hok.fresh (Nat.le_refl s.heap.objs.size)
  exact ⟨.ref s.heap.objs.size, _, Inv.tupF I (r1.append r2) (by rw [List.length_append]; exact hz), rfl, q _ _ (.inl fr) (smN fr) updF⟩
/-- t[lo:hi] -/
def rSlF : V → Option Int → Option Int → Hp → VK → Prop := fun x lo hi H Q => ∃ a xs, x = .ref a ∧ TupF H a xs ∧ ∀ p H', (H p = none ∨ p = a) → Same H H' → TupF H' p (cutV xs lo hi) → Q (.ref p) H'
theorem sl_tupF : SlR X rSlF := by
  intro pins s σ H x v vl vu lo hi sl Q I rx hs pl pu h
  obtain ⟨a, xs, rfl, ha, q⟩ := h
  by_cases hw : HT.sIx xs.length 0 lo = 0 ∧ HT.sIx xs.length xs.length hi = xs.length
  · refine sl_tupA pins s σ H _ v vl vu lo hi sl Q I rx hs pl pu ⟨a, xs, rfl, ha.sq, fun hw => q a H (.inr rfl) (Same.refl H) ?_, fun h => (h hw).elim⟩
    unfold cutV
    rw [hw.1, hw.2, List.drop_zero, Nat.sub_zero, List.take_length]
    exact ha
  cases rx
  obtain ⟨its, r, ht, hz⟩ := I.tuple (ha.sq (K := X.K))
  have hlen : its.toArray.size = xs.length := by rw [List.size_toArray]; exact r.length.symm
  have fr := I.hok.fresh (Nat.le_refl s.heap.objs.size)
  refine ⟨"tuple", "tuple.__getitem__", PyProof.Rows.slot_tuple_getitem.lookup, ht.typeIs, HT.getItem_tuple_cut ht hs pl pu (by rw [hlen]; exact hw) ?_ (by rw [hlen]; exact hz)⟩
  rw [hlen]
  exact ⟨.ref s.heap.objs.size, _, Inv.tupF I ((r.drop _).take _) (Nat.le_trans (cutV_length xs lo hi) hz), rfl, q _ _ (.inl fr) (smN fr) updF⟩
end
end Dl
namespace Dl
open PySem PySem.Spec PyProof.Rows L2 Rt
theorem iteS {α : Type} {c : Prop} [Decidable c] {a b : α} (h : (if c then some a else none) = some b) : c ∧ a = b := by
  by_cases e : c
  · rw [if_pos e] at h; cases h; exact ⟨e, rfl⟩
  · rw [if_neg e] at h; cases h
/-! what operators tell -/
def addD : D → D → Option D
  | .int i, .int j => some (.int (i + j))
  | .tuple a, .tuple b => if a.length + b.length ≤ sizeLine then some (.tuple (a ++ b)) else none
  | .list a, .list b => if a.length + b.length ≤ sizeLine then some (.list (a ++ b)) else none
  | .str a, .str b => if a.length + b.length ≤ sizeLine then some (.str (a ++ b)) else none
  | _, _ => none
def subD : D → D → Option D
  | .int i, .int j => some (.int (i - j))
  | _, _ => none
def mulD : D → D → Option D
  | .int i, .int j => if (-(2 ^ 64) < i ∧ i < 2 ^ 64) ∨ (-(2 ^ 64) < j ∧ j < 2 ^ 64) then some (.int (i * j)) else none
  | _, _ => none
def modD : D → D → Option D
  | .int i, .int j => if 0 < j then some (.int (i % j)) else none
  | _, _ => none
def fdivD : D → D → Option D
  | .int i, .int j => if 0 < j ∧ j < 2 ^ 60 then some (.int (i / j)) else none
  | _, _ => none
def powD : D → D → Option D
  | .int i, .int j => if 0 ≤ j ∧ j ≤ 1000000 ∧ i.natAbs < 2 ^ 64 then some (.int (i ^ j.toNat)) else none
  | _, _ => none
def ltD : D → D → Option D
  | .int i, .int j => some (.bool (decide (i < j)))
  | .str i, .str j => some (.bool (decide (i.cps.toList < j.cps.toList)))
  | _, _ => none
def leD : D → D → Option D
  | .int i, .int j => some (.bool (decide (i ≤ j)))
  | .str i, .str j => some (.bool (!decide (j.cps.toList < i.cps.toList)))
  | _, _ => none
def gtD : D → D → Option D
  | .int i, .int j => some (.bool (decide (i > j)))
  | _, _ => none
def geD : D → D → Option D
  | .int i, .int j => some (.bool (decide (i ≥ j)))
  | .str i, .str j => some (.bool (!decide (i.cps.toList < j.cps.toList)))
  | _, _ => none
/-- it can be compared and shown: no dict in it, not too deep -/
def okD (d : D) : Bool := !d.hasDict && SeqAt.shaped d
def eqD (a b : D) : Option D := if (okD a && okD b) = true then some (.bool (PyData.eqv a b)) else none
def neD (a b : D) : Option D := if (okD a && okD b) = true then some (.bool (!PyData.eqv a b)) else none
def isND : D → D → Option D
  | .none, .none => some (.bool true)
  | _, .none => some (.bool false)
  | _, _ => none
def noND : D → D → Option D
  | .none, .none => some (.bool false)
  | _, .none => some (.bool true)
  | _, _ => none
def inD : D → D → Option D
  | a, .tuple ds => if (okD a && okD (.tuple ds)) = true then some (.bool (ds.any fun z => PyData.eqv z a)) else none
  | a, .list ds => if (okD a && okD (.list ds)) = true then some (.bool (ds.any fun z => PyData.eqv z a)) else none
  | .str i, .str j => match i.cps.toList with
    | [c] => some (.bool (decide (c ∈ j.cps.toList)))
    | _ => none
  | _, _ => none
def ninD : D → D → Option D
  | a, .tuple ds => if (okD a && okD (.tuple ds)) = true then some (.bool (!ds.any fun z => PyData.eqv z a)) else none
  | a, .list ds => if (okD a && okD (.list ds)) = true then some (.bool (!ds.any fun z => PyData.eqv z a)) else none
  | .str i, .str j => match i.cps.toList with
    | [c] => some (.bool (!decide (c ∈ j.cps.toList)))
    | _ => none
  | _, _ => none
theorem one_sign {i : Str} {c : Nat} (h : i.cps.toList = [c]) : i = ⟨#[c]⟩ := by
  cases i with
  | mk a =>
    have h : a.toList = [c] := h
    congr
    rw [← Array.toArray_toList (xs := a), h]
theorem okD.parts {d : D} (h : okD d = true) : d.hasDict = false ∧ SeqAt.shaped d = true := by
  have := Bool.and_eq_true_iff.mp h
  exact ⟨by simpa using this.1, this.2⟩
section
variable {X : Cx}
theorem o_add : OpR X (binaryOp .Add) (rD addD) := by
  intro pn s σ H x y v u Q I rx ry h
  obtain ⟨M, a, b, d, dm, ra, rb, e, q⟩ := h
  cases ra <;> cases rb <;> try (cases e; done)
  · cases e
    exact op_add pn s σ H _ _ v u Q I rx ry ⟨_, _, rfl, rfl, q _ _ (Same.refl _) (.int _)⟩
  · obtain ⟨l, rfl⟩ := iteS e
    exact op_add_str pn s σ H _ _ v u Q I rx ry ⟨_, _, rfl, rfl, l, q _ _ (Same.refl _) (.str _ (by show (Array.size (_ ++ _)) ≤ _; rw [Array.size_append]; exact l))⟩
  · rename_i t1 n1 l1 r1 _ _ _ t2 n2 l2 r2
    obtain ⟨l, rfl⟩ := iteS e
    refine op_catF pn s σ H _ _ v u Q I rx ry ⟨_, _, _, _, rfl, rfl, t1, t2, by rw [r1.len, r2.len]; exact l, fun p H' hp sm t => q _ H' sm (.tup t (fun m => ?_) (by rw [List.length_append, r1.len, r2.len]; exact l) ((r1.mono (.of sm)).app (r2.mono (.of sm))))⟩
    rcases hp with hp | hp | hp
    · exact dm p m hp
    · rw [hp] at m; exact n1 m
    · rw [hp] at m; exact n2 m
  · rename_i t1 n1 l1 r1 _ _ _ t2 n2 l2 r2
    obtain ⟨l, rfl⟩ := iteS e
    exact op_cat pn s σ H _ _ v u Q I rx ry ⟨_, _, _, _, rfl, rfl, t1, t2, by rw [r1.len, r2.len]; exact l, fun p hp => q _ _ (smN hp) (.lst upd_same (fun m => dm p m hp) (by rw [List.length_append, r1.len, r2.len]; exact l) ((r1.mono (.of (smN hp))).app (r2.mono (.of (smN hp)))))⟩
theorem o_sub : OpR X (binaryOp .Sub) (rD subD) := by
  intro pn s σ H x y v u Q I rx ry h
  obtain ⟨M, a, b, d, dm, ra, rb, e, q⟩ := h
  cases ra <;> cases rb <;> try (cases e; done)
  cases e
  exact op_sub pn s σ H _ _ v u Q I rx ry ⟨_, _, rfl, rfl, q _ _ (Same.refl _) (.int _)⟩
theorem o_mul : OpR X (binaryOp .Mult) (rD mulD) := by
  intro pn s σ H x y v u Q I rx ry h
  obtain ⟨M, a, b, d, dm, ra, rb, e, q⟩ := h
  cases ra <;> cases rb <;> try (cases e; done)
  obtain ⟨l, rfl⟩ := iteS e
  exact op_mul pn s σ H _ _ v u Q I rx ry ⟨_, _, rfl, rfl, l, q _ _ (Same.refl _) (.int _)⟩
theorem o_mod : OpR X (binaryOp .Mod) (rD modD) := by
  intro pn s σ H x y v u Q I rx ry h
  obtain ⟨M, a, b, d, dm, ra, rb, e, q⟩ := h
  cases ra <;> cases rb <;> try (cases e; done)
  obtain ⟨l, rfl⟩ := iteS e
  exact op_mod pn s σ H _ _ v u Q I rx ry ⟨_, _, rfl, rfl, l, q _ _ (Same.refl _) (.int _)⟩
theorem o_fdiv : OpR X (binaryOp .FloorDiv) (rD fdivD) := by
  intro pn s σ H x y v u Q I rx ry h
  obtain ⟨M, a, b, d, dm, ra, rb, e, q⟩ := h
  cases ra <;> cases rb <;> try (cases e; done)
  obtain ⟨l, rfl⟩ := iteS e
  exact op_fdivW pn s σ H _ _ v u Q I rx ry ⟨_, _, rfl, rfl, wide_div (b := 60) l.1 (by omega) (by decide) (by decide), q _ _ (Same.refl _) (.int _)⟩
theorem o_pow : OpR X (binaryOp .Pow) (rD powD) := by
  intro pn s σ H x y v u Q I rx ry h
  obtain ⟨M, a, b, d, dm, ra, rb, e, q⟩ := h
  cases ra <;> cases rb <;> try (cases e; done)
  obtain ⟨l, rfl⟩ := iteS e
  exact op_pow pn s σ H _ _ v u Q I rx ry ⟨_, _, rfl, rfl, l, q _ _ (Same.refl _) (.int _)⟩
theorem o_lt : OpR X (compareOp .Lt) (rD ltD) := by
  intro pn s σ H x y v u Q I rx ry h
  obtain ⟨M, a, b, d, dm, ra, rb, e, q⟩ := h
  cases ra <;> cases rb <;> try (cases e; done)
  · cases e
    exact op_lt pn s σ H _ _ v u Q I rx ry ⟨_, _, rfl, rfl, q _ _ (Same.refl _) (.bl _)⟩
  · cases e
    exact op_lt_str pn s σ H _ _ v u Q I rx ry ⟨_, _, rfl, rfl, q _ _ (Same.refl _) (.bl _)⟩
theorem o_le : OpR X (compareOp .LtE) (rD leD) := by
  intro pn s σ H x y v u Q I rx ry h
  obtain ⟨M, a, b, d, dm, ra, rb, e, q⟩ := h
  cases ra <;> cases rb <;> try (cases e; done)
  · cases e
    exact op_le pn s σ H _ _ v u Q I rx ry ⟨_, _, rfl, rfl, q _ _ (Same.refl _) (.bl _)⟩
  · cases e
    exact op_le_str pn s σ H _ _ v u Q I rx ry ⟨_, _, rfl, rfl, q _ _ (Same.refl _) (.bl _)⟩
theorem o_gt : OpR X (compareOp .Gt) (rD gtD) := by
  intro pn s σ H x y v u Q I rx ry h
  obtain ⟨M, a, b, d, dm, ra, rb, e, q⟩ := h
  cases ra <;> cases rb <;> try (cases e; done)
  cases e
  exact op_gt pn s σ H _ _ v u Q I rx ry ⟨_, _, rfl, rfl, q _ _ (Same.refl _) (.bl _)⟩
theorem o_ge : OpR X (compareOp .GtE) (rD geD) := by
  intro pn s σ H x y v u Q I rx ry h
  obtain ⟨M, a, b, d, dm, ra, rb, e, q⟩ := h
  cases ra <;> cases rb <;> try (cases e; done)
  · cases e
    exact op_ge pn s σ H _ _ v u Q I rx ry ⟨_, _, rfl, rfl, q _ _ (Same.refl _) (.bl _)⟩
  · cases e
    exact op_ge_str pn s σ H _ _ v u Q I rx ry ⟨_, _, rfl, rfl, q _ _ (Same.refl _) (.bl _)⟩
theorem o_eq (hu : X.A.units + 64 < cLine) : OpR X (compareOp .Eq) (rD eqD) := by
  intro pn s σ H x y v u Q I rx ry h
  obtain ⟨M, a, b, d, dm, ra, rb, e, q⟩ := h
  obtain ⟨l, rfl⟩ := iteS e
  have l := Bool.and_eq_true_iff.mp l
  exact op_eqD hu pn s σ H _ _ v u Q I rx ry ⟨a, b, ra.dp (okD.parts l.1).1, rb.dp (okD.parts l.2).1, (okD.parts l.1).2, (okD.parts l.2).2, q _ _ (Same.refl _) (.bl _)⟩
theorem o_ne (hu : X.A.units + 64 < cLine) : OpR X (compareOp .NotEq) (rD neD) := by
  intro pn s σ H x y v u Q I rx ry h
  obtain ⟨M, a, b, d, dm, ra, rb, e, q⟩ := h
  obtain ⟨l, rfl⟩ := iteS e
  have l := Bool.and_eq_true_iff.mp l
  exact op_neD hu pn s σ H _ _ v u Q I rx ry ⟨a, b, ra.dp (okD.parts l.1).1, rb.dp (okD.parts l.2).1, (okD.parts l.1).2, (okD.parts l.2).2, q _ _ (Same.refl _) (.bl _)⟩
theorem o_is : OpR X (compareOp .Is) (rD isND) := by
  intro pn s σ H x y v u Q I rx ry h
  obtain ⟨M, a, b, d, dm, ra, rb, e, q⟩ := h
  cases rb <;> (try (cases ra <;> cases e; done))
  refine op_isN pn s σ H _ _ v u Q I rx ry ⟨rfl, ?_⟩
  cases ra <;> cases e <;> exact q _ _ (Same.refl _) (.bl _)
theorem o_isnot : OpR X (compareOp .IsNot) (rD noND) := by
  intro pn s σ H x y v u Q I rx ry h
  obtain ⟨M, a, b, d, dm, ra, rb, e, q⟩ := h
  cases rb <;> (try (cases ra <;> cases e; done))
  refine op_notN pn s σ H _ _ v u Q I rx ry ⟨rfl, ?_⟩
  cases ra <;> cases e <;> exact q _ _ (Same.refl _) (.bl _)
theorem o_in (hu : X.A.units + 65 < cLine) : OpR X (compareOp .In) (rD inD) := by
  intro pn s σ H x y v u Q I rx ry h
  obtain ⟨M, a, b, d, dm, ra, rb, e, q⟩ := h
  cases rb <;> (try (cases ra <;> cases e; done))
  · cases ra <;> try (cases e; done)
    rename_i i hi
    simp only [inD] at e
    split at e
    · rename_i c hc
      cases e
      exact op_in_sign pn s σ H _ _ v u Q I rx ry ⟨c, _, by rw [one_sign hc], rfl, q _ _ (Same.refl _) (.bl _)⟩
    · cases e
  · rename_i xs ds t n l r
    obtain ⟨l2, rfl⟩ := iteS (show (if (okD a && okD (.tuple ds)) = true then some (PyData.bool (ds.any fun z => PyData.eqv z a)) else none) = some d by cases a <;> exact e)
    have l2 := Bool.and_eq_true_iff.mp l2
    have rb : Rp M H (.ref _) (.tuple ds) := .tup t n l r
    obtain ⟨as, r1⟩ := Dp.reads I _ _ v (ra.dp (okD.parts l2.1).1) rx
    obtain ⟨bs, r2⟩ := Dp.reads I _ _ u (rb.dp (okD.parts l2.2).1) ry
    exact SeqAt.in_tuple_reads r2 r1 (SeqAt.canLay_of_shaped (okD.parts l2.2).2) (SeqAt.canLay_of_shaped (okD.parts l2.1).2) (room_in_shaped (okD.parts l2.1).2 hu) ⟨.bl _, H, I, rfl, q _ _ (Same.refl _) (.bl _)⟩
  · rename_i xs ds t n l r
    obtain ⟨l2, rfl⟩ := iteS (show (if (okD a && okD (.list ds)) = true then some (PyData.bool (ds.any fun z => PyData.eqv z a)) else none) = some d by cases a <;> exact e)
    have l2 := Bool.and_eq_true_iff.mp l2
    have rb : Rp M H (.ref _) (.list ds) := .lst t n l r
    exact op_inD hu pn s σ H _ _ v u Q I rx ry ⟨a, ds, ra.dp (okD.parts l2.1).1, rb.dp (okD.parts l2.2).1, (okD.parts l2.1).2, (okD.parts l2.2).2, q _ _ (Same.refl _) (.bl _)⟩
theorem o_nin (hu : X.A.units + 65 < cLine) : OpR X (compareOp .NotIn) (rD ninD) := by
  intro pn s σ H x y v u Q I rx ry h
  obtain ⟨M, a, b, d, dm, ra, rb, e, q⟩ := h
  cases rb <;> (try (cases ra <;> cases e; done))
  · cases ra <;> try (cases e; done)
    rename_i i hi
    simp only [ninD] at e
    split at e
    · rename_i c hc
      cases e
      exact op_notIn_sign pn s σ H _ _ v u Q I rx ry ⟨c, _, by rw [one_sign hc], rfl, q _ _ (Same.refl _) (.bl _)⟩
    · cases e
  · rename_i xs ds t n l r
    obtain ⟨l2, rfl⟩ := iteS (show (if (okD a && okD (.tuple ds)) = true then some (PyData.bool (!ds.any fun z => PyData.eqv z a)) else none) = some d by cases a <;> exact e)
    have l2 := Bool.and_eq_true_iff.mp l2
    have rb : Rp M H (.ref _) (.tuple ds) := .tup t n l r
    obtain ⟨as, r1⟩ := Dp.reads I _ _ v (ra.dp (okD.parts l2.1).1) rx
    obtain ⟨bs, r2⟩ := Dp.reads I _ _ u (rb.dp (okD.parts l2.2).1) ry
    exact SeqAt.notIn_tuple_reads r2 r1 (SeqAt.canLay_of_shaped (okD.parts l2.2).2) (SeqAt.canLay_of_shaped (okD.parts l2.1).2) (room_in_shaped (okD.parts l2.1).2 hu) ⟨.bl _, H, I, rfl, q _ _ (Same.refl _) (.bl _)⟩
  · rename_i xs ds t n l r
    obtain ⟨l2, rfl⟩ := iteS (show (if (okD a && okD (.list ds)) = true then some (PyData.bool (!ds.any fun z => PyData.eqv z a)) else none) = some d by cases a <;> exact e)
    have l2 := Bool.and_eq_true_iff.mp l2
    have rb : Rp M H (.ref _) (.list ds) := .lst t n l r
    exact op_notInD hu pn s σ H _ _ v u Q I rx ry ⟨a, ds, ra.dp (okD.parts l2.1).1, rb.dp (okD.parts l2.2).1, (okD.parts l2.1).2, (okD.parts l2.2).2, q _ _ (Same.refl _) (.bl _)⟩
def negD : D → Option D
  | .int i => some (.int (-i))
  | _ => none
def e1 (g : D → Option D) (f : EF) : EF := fun ρ => (f ρ).bind g
theorem dE_neg {a : Expr} {pos : Pos} {f : EF} {μ : Bool} (h : PE X a (tD μ f)) : PE X (.UnaryOp .USub a pos) (tD μ (e1 negD f)) := (pe_un un_neg h).wk fun σ H Q q => by
  obtain ⟨M0, H0, ρ, d, R, e, q⟩ := q
  obtain ⟨d1, e1, e⟩ := some_bind e
  refine ⟨M0, H0, ρ, d1, R, e1, fun v H1 s1 r1 => ?_⟩
  cases r1 <;> cases e
  exact ⟨_, rfl, q _ _ s1 (.int _)⟩
/-! arguments, displays, subscripts, slices -/
def aNil : Rho → Option (List D) := fun _ => some []
def aCons (f : EF) (g : Rho → Option (List D)) : Rho → Option (List D) := fun ρ => (f ρ).bind fun d => (g ρ).map fun ds => d :: ds
theorem dA_nil {μ : Bool} : PA X [] (tA μ aNil) := PA.weak pa_nil fun σ H Q q => by
  obtain ⟨M0, H0, ρ, ds, R, e, q⟩ := q
  cases e
  exact ⟨Q, q [] H (Same.refl _) .nil, fun _ _ z => z⟩
theorem dA_cons {e : Expr} {es : List Expr} {f : EF} {g : Rho → Option (List D)} {μ : Bool} (h : PE X e (tD μ f)) (hs : PA X es (tA μ g)) (he : starEach (e :: es) X.env = (false, eval e X.env) :: starEach es X.env := by rfl) : PA X (e :: es) (tA μ (aCons f g)) := PA.weak (pa_cons h hs he) fun σ H Q q => by
  obtain ⟨M0, H0, ρ, ds, R, e, q⟩ := q
  obtain ⟨d, ed, e⟩ := some_bind e
  cases z : g ρ with
  | none => rw [z] at e; cases e
  | some r =>
    rw [z] at e
    cases e
    exact ⟨Q, ⟨M0, H0, ρ, d, R, ed, fun v H1 s1 r1 => ⟨M0, H0, ρ, r, R.mono s1, z, fun vs H2 s2 r2 => q _ H2 (s1.trans s2) (.cons (r1.mono (.of s2)) r2)⟩⟩, fun _ _ z => z⟩
def eTup (g : Rho → Option (List D)) : EF := fun ρ => (g ρ).bind fun ds => if ds.length ≤ sizeLine then some (.tuple ds) else none
def eLst (g : Rho → Option (List D)) : EF := fun ρ => (g ρ).bind fun ds => if ds.length ≤ sizeLine then some (.list ds) else none
theorem dE_tup {es : List Expr} {x1 : Nat} {pos : Pos} {g : Rho → Option (List D)} {μ : Bool} (h : PA X es (tA μ g)) : PE X (.Tuple es x1 pos) (tD μ (eTup g)) := (pe_tupF h).wk fun σ H Q q => by
  obtain ⟨M0, H0, ρ, d, R, e, q⟩ := q
  obtain ⟨ds, ed, e⟩ := some_bind e
  obtain ⟨l, rfl⟩ := iteS e
  exact ⟨M0, H0, ρ, ds, R, ed, fun vs H1 s1 r1 => ⟨by rw [r1.len]; exact l, fun p H2 np s2 t => q _ H2 (s1.trans s2) (.tup t ((R.mono s1).domu μ |>.not np) (by rw [r1.len]; exact l) (r1.mono (.of s2)))⟩⟩
theorem dE_lst {es : List Expr} {pos : Pos} {g : Rho → Option (List D)} {μ : Bool} (h : PA X es (tA μ g)) : PE X (.List es pos) (tD μ (eLst g)) := (pe_lst h).wk fun σ H Q q => by
  obtain ⟨M0, H0, ρ, d, R, e, q⟩ := q
  obtain ⟨ds, ed, e⟩ := some_bind e
  obtain ⟨l, rfl⟩ := iteS e
  exact ⟨M0, H0, ρ, ds, R, ed, fun vs H1 s1 r1 => ⟨by rw [r1.len]; exact l, fun p np => q _ _ (s1.trans (smN np)) (.lst upd_same ((R.mono s1).domu μ |>.not np) (by rw [r1.len]; exact l) (r1.mono (.of (smN np))))⟩⟩
def ixD : D → D → Option D
  | .tuple ds, .int i => atI ds i
  | .list ds, .int i => atI ds i
  | _, _ => none
theorem RpAll.atI {M : Addr → Prop} {H : Hp} {vs : List V} {ds : List D} {i : Int} {d : D} (h : RpAll M H vs ds) (e : L2.atI ds i = some d) : ∃ v, L2.atI vs i = some v ∧ Rp M H v d := by
  unfold L2.atI at e ⊢
  rw [h.len]
  obtain ⟨j, ej, e⟩ := some_bind e
  obtain ⟨v, a, b⟩ := h.get e
  exact ⟨v, by rw [ej]; exact a, b⟩
theorem i_ix : IxR X (rD ixD) := by
  intro ve sl pn s σ H x y v u Q I rx ry h hs
  obtain ⟨M, a, b, d, dm, ra, rb, e, q⟩ := h
  cases ra <;> cases rb <;> try (cases e; done)
  · rename_i t n l r i
    obtain ⟨w, ew, rw⟩ := r.atI (show L2.atI _ _ = some d from e)
    exact ix_tup ve sl pn s σ H _ _ v u Q I rx ry ⟨_, _, i, w, rfl, rfl, t.sq, ew, q w H (Same.refl _) rw⟩ hs
  · rename_i t n l r i
    obtain ⟨w, ew, rw⟩ := r.atI (show L2.atI _ _ = some d from e)
    exact ix_list ve sl pn s σ H _ _ v u Q I rx ry ⟨_, _, i, w, rfl, rfl, SqL.of t, ew, q w H (Same.refl _) rw⟩ hs
theorem dE_ix {a b : Expr} {pos : Pos} {f1 f2 : EF} {μ : Bool} (ha : PE X a (tD μ f1)) (hb : PE X b (tD μ f2)) (hp : PlainIx b := by exact fun _ _ => rfl) : PE X (.Subscript a b pos) (tD μ (e2 ixD f1 f2)) := (pe_ix i_ix ha hb hp).wk fun _ _ _ q => dOp2 q
/-- slices -/
def cutD {α : Type} (xs : List α) (lo hi : Option Int) : List α := (xs.drop (HT.sIx xs.length 0 lo)).take (HT.sIx xs.length xs.length hi - HT.sIx xs.length 0 lo)
def slD : D → Option Int → Option Int → Option D
  | .tuple ds, lo, hi => some (.tuple (cutD ds lo hi))
  | .list ds, lo, hi => some (.list (cutD ds lo hi))
  | _, _, _ => none
theorem RpAll.cut {M : Addr → Prop} {H : Hp} {vs : List V} {ds : List D} (h : RpAll M H vs ds) (lo hi : Option Int) : RpAll M H (cutV vs lo hi) (cutD ds lo hi) := by
  unfold cutV cutD
  rw [h.len]
  exact (h.drop _).take _
def rSlD : V → Option Int → Option Int → Hp → VK → Prop := fun x lo hi H Q => ∃ M a d, Dom M H ∧ Rp M H x a ∧ slD a lo hi = some d ∧ ∀ v H', Same H H' → Rp M H' v d → Q v H'
theorem s_sl : SlR X rSlD := by
  intro pn s σ H x v vl vu lo hi sl Q I rx hs pl pu h
  obtain ⟨M, a, d, dm, ra, e, q⟩ := h
  cases ra <;> try (cases e; done)
  · rename_i a t n l r
    cases e
    refine sl_tupF pn s σ H _ v vl vu lo hi sl Q I rx hs pl pu ⟨_, _, rfl, t, fun p H' hp sm t' => q _ H' sm (.tup t' (fun m => ?_) (Nat.le_trans (cutV_length _ _ _) l) ((r.mono (.of sm)).cut _ _))⟩
    rcases hp with hp | hp
    · exact dm p m hp
    · rw [hp] at m; exact n m
  · rename_i a t n l r
    cases e
    exact sl_list pn s σ H _ v vl vu lo hi sl Q I rx hs pl pu ⟨_, _, rfl, SqL.of t, fun p hp => q _ _ (smN hp) (.lst upd_same (fun m => dm p m hp) (Nat.le_trans (cutV_length _ _ _) l) ((r.mono (.of (smN hp))).cut _ _))⟩
def tPo (f : Rho → Option (Option Int)) : TO := fun σ H Q => ∃ M0 H0 ρ o, Rs M0 H0 H σ ρ ∧ f ρ = some o ∧ ∀ H', Same H H' → Q o H'
def pNone : Rho → Option (Option Int) := fun _ => some none
def pSome (f : EF) : Rho → Option (Option Int) := fun ρ => (f ρ).bind fun d => match d with | .int i => some (some i) | _ => none
theorem _root_.L2.PO.wk {e : Option Expr} {t t' : TO} (h : PO X e t) (m : ∀ σ H Q, t' σ H Q → t σ H Q) : PO X e t' := ⟨fun pn s σ H Q I q => h.run pn s σ H Q I (m _ _ _ q)⟩
theorem dO_none : PO X none (tPo pNone) := po_none.wk fun σ H Q q => by
  obtain ⟨M0, H0, ρ, o, R, e, q⟩ := q
  cases e
  exact q _ (Same.refl _)
theorem dO_some {e : Expr} {f : EF} {μ : Bool} (h : PE X e (tD μ f)) : PO X (some e) (tPo (pSome f)) := (po_some h).wk fun σ H Q q => by
  obtain ⟨M0, H0, ρ, o, R, e, q⟩ := q
  obtain ⟨d, ed, e⟩ := some_bind e
  refine ⟨M0, H0, ρ, d, R, ed, fun v H1 s1 r1 => ?_⟩
  cases r1 <;> cases e
  exact ⟨_, rfl, q _ s1⟩
def eSl (f : EF) (lo hi : Rho → Option (Option Int)) : EF := fun ρ => (f ρ).bind fun d => (lo ρ).bind fun l => (hi ρ).bind fun h => slD d l h
theorem dE_sl {e : Expr} {lo hi : Option Expr} {pos p2 : Pos} {f : EF} {g h : Rho → Option (Option Int)} {μ : Bool} (he : PE X e (tD μ f)) (hl : PO X lo (tPo g)) (hh : PO X hi (tPo h)) : PE X (.Subscript e (.Slice lo hi none p2) pos) (tD μ (eSl f g h)) := (pe_slice s_sl he hl hh).wk fun σ H Q q => by
  obtain ⟨M0, H0, ρ, d, R, e, q⟩ := q
  obtain ⟨d1, e1, e⟩ := some_bind e
  obtain ⟨l, el, e⟩ := some_bind e
  obtain ⟨u, eu, e⟩ := some_bind e
  exact ⟨M0, H0, ρ, d1, R, e1, fun v H1 s1 r1 => ⟨M0, H0, ρ, l, R.mono s1, el, fun H2 s2 => ⟨M0, H0, ρ, u, R.mono (s1.trans s2), eu, fun H3 s3 => ⟨_, d1, d, (R.mono ((s1.trans s2).trans s3)).domu μ, r1.mono (.of (s2.trans s3)), e, fun v H4 s4 r4 => q v H4 (((s1.trans s2).trans s3).trans s4) r4⟩⟩⟩⟩
/-! calls -/
def rC (g : List D → Option D) : List V → Hp → VK → Prop := fun xs H Q => ∃ M ds d, Dom M H ∧ RpAll M H xs ds ∧ g ds = some d ∧ ∀ v H', Same H H' → Rp M H' v d → Q v H'
def eCall (g : List D → Option D) (f : Rho → Option (List D)) : EF := fun ρ => (f ρ).bind g
theorem dCall {g : List D → Option D} {f : Rho → Option (List D)} {μ : Bool} {σ : L2.St} {H : Hp} {Q : VK} (q : tD μ (eCall g f) σ H Q) : tCB (rC g) (tA μ f) σ H Q := by
  obtain ⟨M0, H0, ρ, d, R, e, q⟩ := q
  obtain ⟨ds, ed, e⟩ := some_bind e
  exact ⟨M0, H0, ρ, ds, R, ed, fun vs H1 s1 r1 => ⟨_, ds, d, (R.mono s1).domu μ, r1, e, fun v H2 s2 r2 => q v H2 (s1.trans s2) r2⟩⟩
def spD (n : Nat) (g : List D → Option D) : Sp := fun vs H Q _ => ∃ M ds d, Dom M H ∧ RpAll M H vs ds ∧ ds.length = n ∧ g ds = some d ∧ ∀ v H', Same H H' → Rp M H' v d → Q v H'
def gN (n : Nat) (g : List D → Option D) : List D → Option D := fun ds => if ds.length = n then g ds else none
theorem dE_cl {k n : Nat} {x : Str} {ps : List Str} {g : List D → Option D} {p pos : Pos} {e : Expr} {es : List Expr} {f : Rho → Option (List D)} {μ : Bool} (C : Cl X.prog X.w X.K X.mg X.base k x ps (spD n g)) (hr : Room k X.A) (hg : Gl X x) (ha : PA X (e :: es) (tA μ f))
    (hdb : (x == ("__debug__" : Str)) = false := by decide) (he : starEach (e :: es) X.env = (false, eval e X.env) :: starEach es X.env := by rfl) (hpl : (backTo pos (starEach es X.env)).any (·.1) = false := by rfl) :
    PE X (.Call (.Name x p) (e :: es) [] pos) (tD μ (eCall (gN n g) f)) := (pe_cl C hr hg ha hdb he hpl).wk fun σ H Q q => by
  obtain ⟨M0, H0, ρ, d, R, e, q⟩ := q
  obtain ⟨ds, ed, e⟩ := some_bind e
  refine ⟨M0, H0, ρ, ds, R, ed, fun vs H1 s1 r1 => ?_⟩
  unfold gN at e
  split at e
  · rename_i l
    rw [List.append_nil]
    exact ⟨_, ds, d, (R.mono s1).domu μ, r1, l, e, fun v H2 s2 r2 => q v H2 (s1.trans s2) r2⟩
  · cases e
end
end Dl
namespace Dl
open PySem PySem.Spec PyProof.Rows L2 Rt
/-! ### targets -/
mutual
inductive Pat
  | nm (i : Nat)
  | tp (ps : Pats)
inductive Pats
  | nil
  | cons (p : Pat) (ps : Pats)
end
def Pats.len : Pats → Nat
  | .nil => 0
  | .cons _ ps => ps.len + 1
mutual
def gP (K : PySem.W.Frag) : Pat → TG
  | .nm i => gName i
  | .tp ps => gTup K ps.len (gPs K ps)
def gPs (K : PySem.W.Frag) : Pats → TGs
  | .nil => gNil
  | .cons p ps => gCons (gP K p) (gPs K ps)
end
mutual
def bindP : Pat → D → Rho → Option Rho
  | .nm i, d, ρ => if i < ρ.length then some (ρ.set i (some (.dat d))) else none
  | .tp ps, .tuple ds, ρ => bindPs ps ds ρ
  | .tp _, _, _ => none
def bindPs : Pats → List D → Rho → Option Rho
  | .nil, [], ρ => some ρ
  | .cons p ps, d :: ds, ρ => (bindP p d ρ).bind fun ρ1 => bindPs ps ds ρ1
  | _, _, _ => none
end
mutual
def slP : Pat → List Nat
  | .nm i => [i]
  | .tp ps => slPs ps
def slPs : Pats → List Nat
  | .nil => []
  | .cons p ps => slP p ++ slPs ps
end
theorem set_get {α : Type} {xs : List α} {i j : Nat} {x y : α} (h : (xs.set i x)[j]? = some y) : (i = j ∧ y = x) ∨ (i ≠ j ∧ xs[j]? = some y) := by
  rw [List.getElem?_set] at h
  by_cases e : i = j
  · rw [if_pos e] at h
    split at h
    · cases h; exact .inl ⟨e, rfl⟩
    · cases h
  · rw [if_neg e] at h; exact .inr ⟨e, h⟩
theorem set_same {α : Type} {xs : List α} {i : Nat} {x : α} (h : i < xs.length) : (xs.set i x)[i]? = some x := by
  rw [List.getElem?_set, if_pos rfl, if_pos h]
theorem set_other {α : Type} {xs : List α} {i j : Nat} {x : α} (h : i ≠ j) : (xs.set i x)[j]? = xs[j]? := by
  rw [List.getElem?_set, if_neg h]
theorem Mu.shrink {M0 : Addr → Prop} {σ : L2.St} {ρ : Rho} {i : Nat} {w : Option V} {lv : Option LV} (h : ∀ ds, lv ≠ some (.own ds)) : ∀ a, Mu true M0 (σ.set i w) (ρ.set i lv) a → Mu true M0 σ ρ a := fun a m => by
  rcases m with m | ⟨_, j, ds, e1, e2⟩
  · exact .inl m
  · rcases set_get e1 with ⟨_, e⟩ | ⟨n, e⟩
    · exact (h ds e.symm).elim
    · rw [set_other n] at e2
      exact .inr ⟨rfl, j, ds, e, e2⟩
theorem Rs.set {M0 : Addr → Prop} {H0 H : Hp} {σ : L2.St} {ρ : Rho} {i : Nat} {v : V} {d : D} (R : Rs M0 H0 H σ ρ) (r : Rp (Mu true M0 σ ρ) H v d) : Rs M0 H0 H (σ.set i (some v)) (ρ.set i (some (.dat d))) := by
  have sh : ∀ a, Mu true M0 (σ.set i (some v)) (ρ.set i (some (.dat d))) a → Mu true M0 σ ρ a ∨ H a = none := fun a m => .inl (Mu.shrink (fun ds e => by cases e) a m)
  refine ⟨R.sm, R.dom, by rw [List.length_set, List.length_set]; exact R.len, fun j d' e => ?_, fun j ds e => ?_, fun j w e => ?_, fun j k a b p e1 e2 e3 e4 => ?_⟩
  · rcases set_get e with ⟨rfl, e9⟩ | ⟨n, e⟩
    · cases e9
      have hl : i < ρ.length := by
        have := (List.getElem?_eq_some_iff.mp (by assumption : (ρ.set i _)[i]? = _)).1
        rwa [List.length_set] at this
      exact ⟨v, set_same (by rw [← R.len]; exact hl), r.reM sh⟩
    · obtain ⟨w, x, y⟩ := R.dat j d' e
      exact ⟨w, by rw [set_other n]; exact x, y.reM sh⟩
  · rcases set_get e with ⟨rfl, e9⟩ | ⟨n, e⟩
    · cases e9
    · obtain ⟨p, vs, x, y, z, l, w⟩ := R.own j ds e
      exact ⟨p, vs, by rw [set_other n]; exact x, y, z, l, w.reM sh⟩
  · rcases set_get e with ⟨rfl, e9⟩ | ⟨n, e⟩
    · cases e9
    · rw [set_other n]; exact R.raw j w e
  · rcases set_get e1 with ⟨rfl, e⟩ | ⟨n1, f1⟩
    · cases e
    rcases set_get e2 with ⟨rfl, e⟩ | ⟨n2, f2⟩
    · cases e
    rw [set_other n1] at e3
    rw [set_other n2] at e4
    exact R.inj j k a b p f1 f2 e3 e4
theorem Rs.clear {M0 : Addr → Prop} {H0 H : Hp} {σ : L2.St} {ρ : Rho} (i : Nat) (w : Option V) (R : Rs M0 H0 H σ ρ) : Rs M0 H0 H (σ.set i w) (ρ.set i none) := by
  have sh : ∀ a, Mu true M0 (σ.set i w) (ρ.set i none) a → Mu true M0 σ ρ a ∨ H a = none := fun a m => .inl (Mu.shrink (fun ds e => by cases e) a m)
  refine ⟨R.sm, R.dom, by rw [List.length_set, List.length_set]; exact R.len, fun j d' e => ?_, fun j ds e => ?_, fun j w e => ?_, fun j k a b p e1 e2 e3 e4 => ?_⟩
  · rcases set_get e with ⟨rfl, e9⟩ | ⟨n, e⟩
    · cases e9
    · obtain ⟨w, x, y⟩ := R.dat j d' e
      exact ⟨w, by rw [set_other n]; exact x, y.reM sh⟩
  · rcases set_get e with ⟨rfl, e9⟩ | ⟨n, e⟩
    · cases e9
    · obtain ⟨p, vs, x, y, z, l, w⟩ := R.own j ds e
      exact ⟨p, vs, by rw [set_other n]; exact x, y, z, l, w.reM sh⟩
  · rcases set_get e with ⟨rfl, e9⟩ | ⟨n, e⟩
    · cases e9
    · rw [set_other n]; exact R.raw j w e
  · rcases set_get e1 with ⟨rfl, e⟩ | ⟨n1, f1⟩
    · cases e
    rcases set_get e2 with ⟨rfl, e⟩ | ⟨n2, f2⟩
    · cases e
    rw [set_other n1] at e3
    rw [set_other n2] at e4
    exact R.inj j k a b p f1 f2 e3 e4
/-- an item of a walk: data, or a pair just made of data -/
def RpI (pr : Bool) (M : Addr → Prop) (H : Hp) (v : V) (d : D) : Prop := Rp M H v d ∨ (pr = true ∧ ∃ a xs ds, v = .ref a ∧ d = .tuple ds ∧ H a = some (.tup xs) ∧ RpAll M H xs ds)
def Pat.fits (pr : Bool) : Pat → Bool
  | .nm _ => !pr
  | .tp _ => true
structure Bnd (M0 : Addr → Prop) (σ : L2.St) (ρ : Rho) (sl : List Nat) (σ' : L2.St) (ρ' : Rho) : Prop where
  oth : ∀ j, j ∉ sl → σ'[j]? = σ[j]?
  len : σ'.length = σ.length
  mu : ∀ a, Mu true M0 σ' ρ' a → Mu true M0 σ ρ a
mutual
theorem bindP.ok {K : PySem.W.Frag} {M0 : Addr → Prop} {H0 H : Hp} : ∀ {p : Pat} {σ : L2.St} {ρ ρ' : Rho} {v : V} {d : D} {Q : L2.St → Hp → Prop} {pr : Bool}, Rs M0 H0 H σ ρ → RpI pr (Mu true M0 σ ρ) H v d → p.fits pr = true → bindP p d ρ = some ρ' →
    (∀ σ', Rs M0 H0 H σ' ρ' → Bnd M0 σ ρ (slP p) σ' ρ' → Q σ' H) → gP K p v σ H Q
  | .nm i, σ, ρ, ρ', v, d, Q, pr, R, r, ft, e, q => by
    have hpr : pr = false := by cases pr <;> first | rfl | cases ft
    subst hpr
    have r : Rp (Mu true M0 σ ρ) H v d := by
      rcases r with r | ⟨z, _⟩
      · exact r
      · cases z
    unfold bindP at e
    obtain ⟨l, rfl⟩ := iteS e
    refine q _ (R.set r) ⟨fun j hj => set_other fun z => hj (by rw [z]; exact List.mem_singleton.mpr rfl), List.length_set .., Mu.shrink fun ds e => by cases e⟩
  | .tp ps, σ, ρ, ρ', v, d, Q, pr, R, r, ft, e, q => by
    rcases r with r | ⟨_, a, xs, ds, rfl, rfl, t, r⟩
    · cases r <;> try (cases e; done)
      rename_i xs ds t n l r
      have hl := bindPs.len (show bindPs ps ds ρ = some ρ' from e)
      exact ⟨_, xs, rfl, t.sq, by rw [r.len]; exact hl, bindPs.ok R r e q⟩
    · have hl := bindPs.len (show bindPs ps ds ρ = some ρ' from e)
      exact ⟨_, xs, rfl, SqT.of t, by rw [r.len]; exact hl, bindPs.ok R r e q⟩
theorem bindPs.ok {K : PySem.W.Frag} {M0 : Addr → Prop} {H0 H : Hp} : ∀ {ps : Pats} {σ : L2.St} {ρ ρ' : Rho} {vs : List V} {ds : List D} {Q : L2.St → Hp → Prop}, Rs M0 H0 H σ ρ → RpAll (Mu true M0 σ ρ) H vs ds → bindPs ps ds ρ = some ρ' →
    (∀ σ', Rs M0 H0 H σ' ρ' → Bnd M0 σ ρ (slPs ps) σ' ρ' → Q σ' H) → gPs K ps vs σ H Q
  | .nil, σ, ρ, ρ', vs, ds, Q, R, r, e, q => by
    cases r with
    | nil => cases e; exact ⟨rfl, q σ R ⟨fun _ _ => rfl, rfl, fun a m => m⟩⟩
    | cons h t => cases e
  | .cons p ps, σ, ρ, ρ', vs, ds, Q, R, r, e, q => by
    cases r with
    | nil => cases e
    | cons h t =>
      unfold bindPs at e
      obtain ⟨ρ1, e1, e⟩ := some_bind e
      refine ⟨_, _, rfl, bindP.ok (pr := false) R (.inl h) (by cases p <;> rfl) e1 fun σ1 R1 B1 => ?_⟩
      refine bindPs.ok R1 (t.reM fun a m => .inl (B1.mu a m)) e fun σ2 R2 B2 => q σ2 R2 ⟨fun j hj => ?_, B2.len.trans B1.len, fun a m => B1.mu a (B2.mu a m)⟩
      have hj : j ∉ slP p ++ slPs ps := hj
      rw [List.mem_append, not_or] at hj
      rw [B2.oth j hj.2, B1.oth j hj.1]
theorem bindPs.len : ∀ {ps : Pats} {ds : List D} {ρ ρ' : Rho}, bindPs ps ds ρ = some ρ' → ds.length = ps.len
  | .nil, [], _, _, _ => rfl
  | .nil, _ :: _, _, _, e => nomatch e
  | .cons _ _, [], _, _, e => nomatch e
  | .cons p ps, d :: ds, ρ, ρ', e => by
    unfold bindPs at e
    obtain ⟨ρ1, e1, e⟩ := some_bind e
    exact congrArg (· + 1) (bindPs.len e)
end
/-! ### walks -/
structure DW (pr : Bool) (M : Addr → Prop) (H1 : Hp) (J : It) (items : List D) : Prop where
  ex : ∃ G Y, Walk J items.length G Y ∧ (∀ H2, KpM M H1 H2 → G H2) ∧ ∀ i v Ha Hb, KpM M H1 Ha → Y i Ha v Hb → ∃ d, items[i]? = some d ∧ Same Ha Hb ∧ RpI pr M Hb v d
  sz : items.length ≤ sizeLine
def iD (μ pr : Bool) (it : Rho → Option (List D)) : TI := fun σ H R => ∃ M0 H0 ρ items, Rs M0 H0 H σ ρ ∧ it ρ = some items ∧ ∀ J H', Same H H' → (∀ M', (∀ a, M' a → Mu μ M0 σ ρ a ∨ H' a = none) → DW pr M' H' J items) → R J H'
def seqD : D → Option (List D)
  | .tuple ds => some ds
  | .list ds => some ds
  | _ => none
def itSeq (f : EF) : Rho → Option (List D) := fun ρ => (f ρ).bind seqD
theorem DW.tup {K : PySem.W.Frag} {M : Addr → Prop} {H : Hp} {a : Addr} {xs : List V} {ds : List D} (t : TupF H a xs) (n : ¬ M a) (l : xs.length ≤ sizeLine) (r : RpAll M H xs ds) : DW false M H (Itt K a) ds := by
  obtain ⟨o, e, z⟩ := t
  refine ⟨⟨fun H => SqT K H a xs, YAt xs, by rw [← r.len]; exact walk_tup, fun H2 k => TupF.sq ⟨o, k _ _ n e, z⟩, fun i v Ha Hb k y => ?_⟩, by rw [← r.len]; exact l⟩
  obtain ⟨rfl, y⟩ := y
  obtain ⟨d, e1, e2⟩ := (r.mono k).getV y
  exact ⟨d, e1, Same.refl _, .inl e2⟩
theorem DW.lst {K : PySem.W.Frag} {M : Addr → Prop} {H : Hp} {a : Addr} {xs : List V} {ds : List D} (t : H a = some (.lst xs)) (n : ¬ M a) (l : xs.length ≤ sizeLine) (r : RpAll M H xs ds) : DW false M H (Itl K a) ds := by
  refine ⟨⟨fun H => SqL K H a xs, YAt xs, by rw [← r.len]; exact walk_list, fun H2 k => SqL.of (k _ _ n t), fun i v Ha Hb k y => ?_⟩, by rw [← r.len]; exact l⟩
  obtain ⟨rfl, y⟩ := y
  obtain ⟨d, e1, e2⟩ := (r.mono k).getV y
  exact ⟨d, e1, Same.refl _, .inl e2⟩
theorem nM {M M' : Addr → Prop} {H : Hp} {a : Addr} {o : HO} (hM : ∀ a, M' a → M a ∨ H a = none) (n : ¬ M a) (e : H a = some o) : ¬ M' a := fun m => (hM _ m).elim n fun z => by rw [z] at e; cases e
theorem nMT {M M' : Addr → Prop} {H : Hp} {a : Addr} {xs : List V} (hM : ∀ a, M' a → M a ∨ H a = none) (n : ¬ M a) (e : TupF H a xs) : ¬ M' a := by
  obtain ⟨o, e, _⟩ := e
  exact nM hM n e
section
variable {X : Cx}
theorem dI_seq {tg e : Expr} {f : EF} {μ : Bool} (h : PE X e (tD μ f)) : PI X tg e (iD μ false (itSeq f)) := ⟨fun pn s σ H R I q => by
  obtain ⟨M0, H0, ρ, items, Rr, e, q⟩ := q
  obtain ⟨d, ed, e⟩ := some_bind e
  cases d <;> try (cases e; done)
  · cases e
    refine (pi_list (tg := tg) h).run pn s σ H R I ⟨M0, H0, ρ, _, Rr, ed, fun v H1 s1 r1 => ?_⟩
    cases r1 with
    | lst t n l r => exact ⟨_, rfl, ⟨_, SqL.of t⟩, q _ _ s1 fun M' hM => DW.lst t (nM hM n t) l (r.reM hM)⟩
  · cases e
    refine (pi_tup (tg := tg) h).run pn s σ H R I ⟨M0, H0, ρ, _, Rr, ed, fun v H1 s1 r1 => ?_⟩
    cases r1 with
    | tup t n l r => exact ⟨_, rfl, ⟨_, t.sq⟩, q _ _ s1 fun M' hM => DW.tup t (nMT hM n t) l (r.reM hM)⟩⟩
def rgD (lo : Int) (n : Nat) : List D := (List.range n).map fun (i : Nat) => PyData.int (lo + (i : Int))
def ran1D : List D → Option (List D)
  | [.int j] => if -(2 ^ 62) ≤ j ∧ j < 2 ^ 20 then some (rgD 0 j.toNat) else none
  | _ => none
def ran2D : List D → Option (List D)
  | [.int i, .int j] => if -(2 ^ 62) ≤ i ∧ i < 2 ^ 62 ∧ -(2 ^ 62) ≤ j ∧ j < 2 ^ 62 ∧ j - i < 2 ^ 20 then some (rgD i (j - i).toNat) else none
  | _ => none
def itG (g : List D → Option (List D)) (f : Rho → Option (List D)) : Rho → Option (List D) := fun ρ => (f ρ).bind g
theorem szR {n : Nat} (h : n ≤ 2 ^ 20) : n ≤ sizeLine := Nat.le_trans h (by decide)
theorem DW.rng {M : Addr → Prop} {H : Hp} {lo : Int} {n : Nat} (l : n ≤ sizeLine) : DW false M H (Itr lo n) (rgD lo n) := by
  have hl : (rgD lo n).length = n := by unfold rgD; rw [List.length_map, List.length_range]
  refine ⟨⟨fun _ => True, fun i H x H' => i < n ∧ YFn (fun i => V.int (lo + i)) i H x H', ?_, fun _ _ => trivial, fun i v Ha Hb k y => ?_⟩, by rw [hl]; exact l⟩
  · rw [hl]
    exact ⟨walk_range.goes, walk_range.stops, fun i H x H' hi g y => ⟨hi, walk_range.yields i H x H' hi g y⟩⟩
  · obtain ⟨hi, rfl, rfl⟩ := y
    refine ⟨.int (lo + i), ?_, Same.refl _, .inl (.int _)⟩
    unfold rgD
    rw [List.getElem?_map, List.getElem?_range hi]
    rfl
theorem dI_ran1 {tg a : Expr} {p pos : Pos} {f : Rho → Option (List D)} {μ : Bool} (hg : Gl X "range") (hm : X.mg "range" = none) (ha : PA X [a] (tA μ f)) (hs : starEach [a] X.env = [(false, eval a X.env)] := by rfl) : PI X tg (.Call (.Name "range" p) [a] [] pos) (iD μ false (itG ran1D f)) := (pi_range1 hg hm ha hs).wk fun σ H R q => by
  obtain ⟨M0, H0, ρ, items, Rr, e, q⟩ := q
  obtain ⟨ds, ed, e⟩ := some_bind e
  refine ⟨M0, H0, ρ, ds, Rr, ed, fun vs H1 s1 r1 => ?_⟩
  cases r1 with
  | nil => cases e
  | cons h t =>
    cases t with
    | nil =>
      cases h <;> try (cases e; done)
      obtain ⟨l, rfl⟩ := iteS e
      exact ⟨_, rfl, l.1, by omega, q _ _ s1 fun M' hM => DW.rng (szR (by omega))⟩
    | cons h2 t => cases h <;> cases e
theorem dI_ran2 {tg a b : Expr} {p pos : Pos} {f : Rho → Option (List D)} {μ : Bool} (hg : Gl X "range") (hm : X.mg "range" = none) (ha : PA X [a, b] (tA μ f)) (hs : starEach [a, b] X.env = [(false, eval a X.env), (false, eval b X.env)] := by rfl) (hs2 : starEach [b] X.env = [(false, eval b X.env)] := by rfl) : PI X tg (.Call (.Name "range" p) [a, b] [] pos) (iD μ false (itG ran2D f)) := (pi_range2 hg hm ha hs hs2).wk fun σ H R q => by
  obtain ⟨M0, H0, ρ, items, Rr, e, q⟩ := q
  obtain ⟨ds, ed, e⟩ := some_bind e
  refine ⟨M0, H0, ρ, ds, Rr, ed, fun vs H1 s1 r1 => ?_⟩
  cases r1 with
  | nil => cases e
  | cons h t =>
    cases t with
    | nil => cases h <;> cases e
    | cons h2 t =>
      cases t with
      | cons h3 t => cases h <;> cases h2 <;> cases e
      | nil =>
        cases h <;> cases h2 <;> try (cases e; done)
        obtain ⟨l, rfl⟩ := iteS e
        exact ⟨_, _, rfl, ⟨l.1, l.2.1, l.2.2.1, l.2.2.2.1⟩, q _ _ s1 fun M' hM => DW.rng (szR (by omega))⟩
def enGo : Nat → List D → List D
  | _, [] => []
  | i, d :: ds => .tuple [.int (i : Int), d] :: enGo (i + 1) ds
theorem enGo.len : ∀ (i : Nat) (ds : List D), (enGo i ds).length = ds.length
  | _, [] => rfl
  | i, d :: ds => congrArg (· + 1) (enGo.len (i + 1) ds)
theorem enGo.get : ∀ (i : Nat) (ds : List D) (j : Nat) (d : D), ds[j]? = some d → (enGo i ds)[j]? = some (.tuple [.int ((i + j : Nat) : Int), d])
  | _, [], _, _, e => nomatch e
  | i, d :: ds, 0, _, e => by cases e; rfl
  | i, d :: ds, j + 1, _, e => by
    have := enGo.get (i + 1) ds j _ e
    rw [show i + (j + 1) = i + 1 + j by omega]
    exact this
def enD : List D → Option (List D)
  | [.tuple ds] => some (enGo 0 ds)
  | [.list ds] => some (enGo 0 ds)
  | _ => none
theorem DW.pair {M : Addr → Prop} {H : Hp} {J : It} {n : Nat} {G : Hp → Prop} {fx fy : Nat → Option V} {items : List D} (W : Walk J n G (YPair fx fy)) (hn : n = items.length) (sz : n ≤ sizeLine) (hG : ∀ H2, KpM M H H2 → G H2)
    (hy : ∀ i x y Ha, KpM M H Ha → fx i = some x → fy i = some y → ∃ a b, items[i]? = some (.tuple [a, b]) ∧ Rp M Ha x a ∧ Rp M Ha y b) : DW true M H J items := by
  subst hn
  refine ⟨⟨G, YPair fx fy, W, hG, fun i v Ha Hb k y => ?_⟩, sz⟩
  obtain ⟨T, x, y, rfl, nT, rfl, ex, ey⟩ := y
  obtain ⟨a, b, e, ra, rb⟩ := hy i x y Ha k ex ey
  exact ⟨_, e, smN nT, .inr ⟨rfl, T, _, _, rfl, rfl, upd_same, .cons (ra.mono (.of (smN nT))) (.cons (rb.mono (.of (smN nT))) .nil)⟩⟩
theorem dI_enum {e : Expr} {p pos tpos : Pos} {elts : List Expr} {kk : Nat} {f : Rho → Option (List D)} {μ : Bool} (hg : Gl X "enumerate") (hm : X.mg "enumerate" = none) (ha : PA X [e] (tA μ f)) (hs : starEach [e] X.env = [(false, eval e X.env)] := by rfl) : PI X (.Tuple elts kk tpos) (.Call (.Name "enumerate" p) [e] [] pos) (iD μ true (itG enD f)) := ⟨fun pn s σ H R I q => by
  obtain ⟨M0, H0, ρ, items, Rr, e, q⟩ := q
  obtain ⟨ds, ed, e⟩ := some_bind e
  match ds, e with
  | [.list ds], e =>
    cases e
    refine (pi_enum hg hm ha hs).run pn s σ H R I ⟨M0, H0, ρ, _, Rr, ed, fun vs H1 s1 r1 => ?_⟩
    cases r1 with
    | cons h t =>
      cases t
      cases h with
      | lst t n l r =>
        refine ⟨_, _, rfl, SqL.of t, q _ _ s1 fun M' hM => DW.pair walk_enum (by rw [enGo.len, r.len]) l (fun H2 k => SqL.of (k _ _ (nM hM n t) t)) fun i x y Ha k ex ey => ?_⟩
        cases ex
        obtain ⟨d, e1, e2⟩ := ((r.reM hM).mono k).getV ey
        exact ⟨_, d, by rw [enGo.get 0 _ _ _ e1, Nat.zero_add], .int _, e2⟩
  | [.tuple ds], e =>
    cases e
    refine (pi_enumT hg hm ha hs).run pn s σ H R I ⟨M0, H0, ρ, _, Rr, ed, fun vs H1 s1 r1 => ?_⟩
    cases r1 with
    | cons h t =>
      cases t
      cases h with
      | tup t n l r =>
        refine ⟨_, _, rfl, t.sq, q _ _ s1 fun M' hM => DW.pair walk_enumT (by rw [enGo.len, r.len]) l (fun H2 k => ?_) fun i x y Ha k ex ey => ?_⟩
        · have n := nMT hM n t
          obtain ⟨o, e, z⟩ := t
          exact TupF.sq ⟨o, k _ _ n e, z⟩
        cases ex
        obtain ⟨d, e1, e2⟩ := ((r.reM hM).mono k).getV ey
        exact ⟨_, d, by rw [enGo.get 0 _ _ _ e1, Nat.zero_add], .int _, e2⟩⟩
def zpGo : List D → List D → List D
  | a :: as, b :: bs => .tuple [a, b] :: zpGo as bs
  | _, _ => []
theorem zpGo.len : ∀ (as bs : List D), (zpGo as bs).length = min as.length bs.length
  | [], bs => by cases bs <;> rfl
  | a :: as, [] => rfl
  | a :: as, b :: bs => by
    show (zpGo as bs).length + 1 = min (as.length + 1) (bs.length + 1)
    rw [zpGo.len as bs]
    omega
theorem zpGo.get : ∀ (as bs : List D) (j : Nat) (a b : D), as[j]? = some a → bs[j]? = some b → (zpGo as bs)[j]? = some (.tuple [a, b])
  | [], _, _, _, _, e, _ => nomatch e
  | _ :: _, [], _, _, _, _, e => nomatch e
  | a :: as, b :: bs, 0, _, _, e, f => by cases e; cases f; rfl
  | a :: as, b :: bs, j + 1, _, _, e, f => zpGo.get as bs j _ _ e f
def zpD : List D → Option (List D)
  | [.tuple a, .tuple b] => some (zpGo a b)
  | [.list a, .list b] => some (zpGo a b)
  | _ => none
theorem walk_zipX {K : PySem.W.Frag} {a b : Addr} {xs ys : List V} : Walk (RZ.ItzT K a b) (min xs.length ys.length) (fun H => SqT K H a xs ∧ SqT K H b ys) (YPair (fun i => xs[i]?) (fun i => ys[i]?)) := by
  refine ⟨fun i H hi z => ?_, fun H z => ⟨xs, ys, z.1, z.2, by omega⟩, fun i H v H' hi z y => ?_⟩
  · have h1 : i < xs.length := by omega
    have h2 : i < ys.length := by omega
    exact ⟨xs, ys, xs[i], ys[i], z.1, z.2, by simp [h1], by simp [h2]⟩
  · obtain ⟨T, x, u, h1, h2, h3, h4, h5⟩ := y
    exact ⟨T, x, u, h1, h2, h3, h4 xs z.1, h5 ys z.2⟩
theorem walk_zipY {K : PySem.W.Frag} {a b : Addr} {xs ys : List V} : Walk (L2.Itz K a b) (min xs.length ys.length) (fun H => SqL K H a xs ∧ SqL K H b ys) (YPair (fun i => xs[i]?) (fun i => ys[i]?)) := by
  refine ⟨fun i H hi z => ?_, fun H z => ⟨xs, ys, z.1, z.2, by omega⟩, fun i H v H' hi z y => ?_⟩
  · have h1 : i < xs.length := by omega
    have h2 : i < ys.length := by omega
    exact ⟨xs, ys, xs[i], ys[i], z.1, z.2, by simp [h1], by simp [h2]⟩
  · obtain ⟨T, x, u, h1, h2, h3, h4, h5⟩ := y
    exact ⟨T, x, u, h1, h2, h3, h4 xs z.1, h5 ys z.2⟩
theorem dI_zip {e e2 : Expr} {p pos tpos : Pos} {elts : List Expr} {kk : Nat} {f : Rho → Option (List D)} {μ : Bool} (hg : Gl X "zip") (hm : X.mg "zip" = none) (ha : PA X [e, e2] (tA μ f)) (hs : starEach [e, e2] X.env = (false, eval e X.env) :: starEach [e2] X.env := by rfl) (hpl : (backTo pos (starEach [e2] X.env)).any (·.1) = false := by rfl) :
    PI X (.Tuple elts kk tpos) (.Call (.Name "zip" p) [e, e2] [] pos) (iD μ true (itG zpD f)) := (RZ.pi_zipA hg hm ha hs hpl).wk fun σ H R q => by
  obtain ⟨M0, H0, ρ, items, Rr, e, q⟩ := q
  obtain ⟨ds, ed, e⟩ := some_bind e
  refine ⟨M0, H0, ρ, ds, Rr, ed, fun vs H1 s1 r1 => ?_⟩
  match ds, e, r1 with
  | [.tuple a, .tuple b], e, .cons (@Rp.tup _ _ a1 xs1 _ t n l r) (.cons (@Rp.tup _ _ a2 xs2 _ t2 n2 l2 r2) .nil) =>
    cases e
    refine ⟨_, _, _, _, rfl, .inr ⟨t.sq, t2.sq, q _ _ s1 fun M' hM => DW.pair (walk_zipX (xs := xs1) (ys := xs2)) (by rw [zpGo.len, r.len, r2.len]) (by omega) (fun H2 k => ?_) fun i x y Ha k ex ey => ?_⟩⟩
    · have n := nMT hM n t
      have n2 := nMT hM n2 t2
      obtain ⟨o, e, z⟩ := t
      obtain ⟨o2, e2, z2⟩ := t2
      exact ⟨TupF.sq ⟨o, k _ _ n e, z⟩, TupF.sq ⟨o2, k _ _ n2 e2, z2⟩⟩
    · obtain ⟨d, e1, e2⟩ := ((r.reM hM).mono k).getV ex
      obtain ⟨d', e3, e4⟩ := ((r2.reM hM).mono k).getV ey
      exact ⟨d, d', zpGo.get _ _ _ _ _ e1 e3, e2, e4⟩
  | [.list a, .list b], e, .cons (@Rp.lst _ _ a1 xs1 _ t n l r) (.cons (@Rp.lst _ _ a2 xs2 _ t2 n2 l2 r2) .nil) =>
    cases e
    refine ⟨_, _, _, _, rfl, .inl ⟨SqL.of t, SqL.of t2, q _ _ s1 fun M' hM => DW.pair (walk_zipY (xs := xs1) (ys := xs2)) (by rw [zpGo.len, r.len, r2.len]) (by omega) (fun H2 k => ⟨SqL.of (k _ _ (nM hM n t) t), SqL.of (k _ _ (nM hM n2 t2) t2)⟩) fun i x y Ha k ex ey => ?_⟩⟩
    obtain ⟨d, e1, e2⟩ := ((r.reM hM).mono k).getV ex
    obtain ⟨d', e3, e4⟩ := ((r2.reM hM).mono k).getV ey
    exact ⟨d, d', zpGo.get _ _ _ _ _ e1 e3, e2, e4⟩
end
end Dl
namespace Dl
open PySem PySem.Spec PyProof.Rows L2 Rt
/-! ### comprehensions -/
def sealL (μ : Bool) : Option LV → Option LV
  | some (.own ds) => if μ = true then none else some (.dat (.list ds))
  | x => x
def shutR (μ : Bool) (ρ : Rho) : Rho := ρ.map (sealL μ)
def wipeR : Rho → List Nat → Rho
  | ρ, [] => ρ
  | ρ, v :: vs => (wipeR ρ vs).set v none
theorem wipe_get {σ : L2.St} : ∀ {vs : List Nat} {j : Nat}, j ∉ vs → (wipe σ vs)[j]? = σ[j]?
  | [], _, _ => rfl
  | v :: vs, j, h => by
    have h : j ≠ v ∧ j ∉ vs := by simpa using h
    show ((wipe σ vs).set v none)[j]? = σ[j]?
    rw [set_other h.1.symm, wipe_get h.2]
theorem wipe_len {σ : L2.St} : ∀ {vs : List Nat}, (wipe σ vs).length = σ.length
  | [] => rfl
  | v :: vs => by
    show ((wipe σ vs).set v none).length = σ.length
    rw [List.length_set, wipe_len]
theorem wipe_in {σ : L2.St} : ∀ {vs : List Nat} {j : Nat}, j ∈ vs → (wipe σ vs)[j]? = if j < σ.length then some none else none
  | v :: vs, j, h => by
    show ((wipe σ vs).set v none)[j]? = _
    by_cases e : v = j
    · subst e
      rw [List.getElem?_set, if_pos rfl, wipe_len]
    · rw [set_other e]
      refine wipe_in ?_
      rcases List.mem_cons.mp h with h | h
      · exact (e h.symm).elim
      · exact h
theorem wipe_eq {σ σ2 : L2.St} {vs sl : List Nat} (h : ∀ j, j ∉ sl → σ2[j]? = (wipe σ vs)[j]?) (hl : σ2.length = (wipe σ vs).length) (hs : ∀ j, j ∈ sl → j ∈ vs) : wipe σ2 vs = wipe σ vs := by
  rw [wipe_len] at hl
  apply List.ext_getElem?
  intro j
  by_cases hj : j ∈ vs
  · rw [wipe_in hj, wipe_in hj, hl]
  · rw [wipe_get hj, wipe_get hj, h j fun z => hj (hs j z), wipe_get hj]
theorem seal_get {μ : Bool} {ρ : Rho} {i : Nat} {x : LV} (h : (shutR μ ρ)[i]? = some (some x)) : (ρ[i]? = some (some x) ∧ ∀ ds, x ≠ .own ds) ∨ (μ = false ∧ ∃ ds, ρ[i]? = some (some (.own ds)) ∧ x = .dat (.list ds)) := by
  unfold shutR at h
  rw [List.getElem?_map] at h
  cases e : ρ[i]? with
  | none => rw [e] at h; cases h
  | some y =>
    rw [e] at h
    have h : sealL μ y = some x := by simpa using h
    match y, h with
    | some (.own ds), h =>
      unfold sealL at h
      cases μ with
      | true => cases h
      | false => cases h; exact .inr ⟨rfl, ds, rfl, rfl⟩
    | some (.dat d), h => cases h; exact .inl ⟨rfl, fun ds z => by cases z⟩
    | some (.raw d), h => cases h; exact .inl ⟨rfl, fun ds z => by cases z⟩
    | some .pool, h => cases h; exact .inl ⟨rfl, fun ds z => by cases z⟩
    | none, h => cases h
def Mi (μ : Bool) (M0 : Addr → Prop) (σ : L2.St) (ρ : Rho) (D : Addr) (p : Addr) : Prop := Mu μ M0 σ ρ p ∨ p = D
theorem Mi.noOwn {μ : Bool} {M1 : Addr → Prop} {σ' : L2.St} {ρ : Rho} {vs : List Nat} : ∀ a, Mu true M1 σ' (wipeR (shutR μ ρ) vs) a → M1 a := fun a m => by
  rcases m with m | ⟨_, i, ds, e, _⟩
  · exact m
  · exfalso
    have : ∀ (vs : List Nat) (i : Nat), (wipeR (shutR μ ρ) vs)[i]? = some (some (.own ds)) → False := by
      intro vs
      induction vs with
      | nil =>
        intro i e
        rcases seal_get (show (shutR μ ρ)[i]? = _ from e) with ⟨_, z⟩ | ⟨_, _, _, z⟩
        · exact z ds rfl
        · cases z
      | cons v vs ih =>
        intro i e
        rcases set_get (show ((wipeR (shutR μ ρ) vs).set v none)[i]? = _ from e) with ⟨_, z⟩ | ⟨_, z⟩
        · cases z
        · exact ih i z
    exact this vs i e
theorem Rs.inner {μ : Bool} {M0 : Addr → Prop} {H0 H H2 : Hp} {σ : L2.St} {ρ : Rho} {D : Addr} {ob : HO} (R : Rs M0 H0 H σ ρ) (hD : H D = none) (s : Same H H2) (eD : H2 D = some ob) (vs : List Nat) : Rs (Mi μ M0 σ ρ D) H2 H2 (wipe σ vs) (wipeR (shutR μ ρ) vs) := by
  have base : Rs (Mi μ M0 σ ρ D) H2 H2 σ (shutR μ ρ) := by
    have no := Mi.noOwn (μ := μ) (M1 := Mi μ M0 σ ρ D) (σ' := σ) (ρ := ρ) (vs := [])
    refine ⟨Same.refl _, fun p m => ?_, ?_, fun i d e => ?_, fun i ds e => ?_, fun i v e => ?_, fun i j a b p e1 e2 e3 e4 => ?_⟩
    · rcases m with m | rfl
      · exact ((R.domu μ).mono s) p m
      · rw [eD]; intro z; cases z
    · unfold shutR; rw [List.length_map]; exact R.len
    · rcases seal_get e with ⟨e8, _⟩ | ⟨rfl, ds, e8, z9⟩
      · cases μ with
        | true =>
          obtain ⟨v, a, b⟩ := R.dat i d e8
          refine ⟨v, a, (b.reM fun a m => ?_).mono (.of s)⟩
          rcases no a m with m | rfl
          · exact .inl m
          · exact .inr hD
        | false =>
          obtain ⟨v, a, b⟩ := R.dat i d e8
          refine ⟨v, a, (b.reM fun a m => ?_).mono (.of s)⟩
          rcases no a m with m | rfl
          · exact Mu.up a m
          · exact .inr hD
      · cases z9
        obtain ⟨p, vs, a, b, c, l, r⟩ := R.own i ds e8
        refine ⟨.ref p, a, (Rp.lst b (fun m => ?_) l (r.reM fun a m => ?_)).mono (.of s)⟩
        · rcases no p m with m | rfl
          · rcases m with m | ⟨z, _⟩
            · exact R.dom p m c
            · cases z
          · rw [hD] at b; cases b
        · rcases no a m with m | rfl
          · exact Mu.up a m
          · exact .inr hD
    · rcases seal_get e with ⟨e, z⟩ | ⟨_, _, _, z⟩
      · exact (z ds rfl).elim
      · cases z
    · rcases seal_get e with ⟨e, z⟩ | ⟨_, _, _, z⟩
      · exact R.raw i v e
      · cases z
    · rcases seal_get e1 with ⟨e, z⟩ | ⟨_, _, _, z⟩
      · exact (z _ rfl).elim
      · cases z
  induction vs with
  | nil => exact base
  | cons v vs ih => exact ih.clear v none
def lcGo (p : Pat) (c : Rho → Option Bool) (f : EF) (ρ : Rho) : List D → Option (List D)
  | [] => some []
  | x :: xs => (bindP p x ρ).bind fun ρ1 => (c ρ1).bind fun b => if b = true then (f ρ1).bind fun d => (lcGo p c f ρ xs).map fun r => d :: r else lcGo p c f ρ xs
def eLc (μ : Bool) (vs : List Nat) (it : Rho → Option (List D)) (p : Pat) (c : Rho → Option Bool) (f : EF) : EF := fun ρ => (it ρ).bind fun items => (lcGo p c f (wipeR (shutR μ ρ) vs) items).map .list
theorem some_map {α β : Type} {o : Option α} {f : α → β} {b : β} (h : o.map f = some b) : ∃ a, o = some a ∧ f a = b := by
  cases o with
  | none => cases h
  | some a => cases h; exact ⟨a, rfl, rfl⟩
theorem drop_at {α : Type} {xs : List α} {i : Nat} {x : α} (h : xs[i]? = some x) : xs.drop i = x :: xs.drop (i + 1) := by
  obtain ⟨hl, e⟩ := List.getElem?_eq_some_iff.mp h
  rw [List.drop_eq_getElem_cons hl, e]
theorem lcCore {K : PySem.W.Frag} {μ μi pr : Bool} {M0 : Addr → Prop} {H0 H1 : Hp} {σ : L2.St} {ρ : Rho} {J : It} {items res : List D} {p : Pat} {c : Rho → Option Bool} {f : EF} {vs : List Nat} {D : Addr} {Qd : Hp → Prop}
    (R : Rs M0 H0 H1 σ ρ) (dw : ∀ M', (∀ a, M' a → Mu μ M0 σ ρ a ∨ H1 a = none) → DW pr M' H1 J items) (hD : H1 D = none) (hp : p.fits pr = true) (hs : ∀ j, j ∈ slP p → j ∈ vs) (e : lcGo p c f (wipeR (shutR μ ρ) vs) items = some res)
    (q : ∀ H acc, Same H1 H → H D = some (.lst acc) → acc.length ≤ sizeLine → RpAll (Mi μ M0 σ ρ D) H acc res → Qd H) :
    ∃ W : Nat → Nat → Hp → Prop, (∃ m, W 0 m (upd H1 D (.lst []))) ∧ ∀ i m H, W i m H →
      (J.stop i H ∧ Qd H) ∨ (J.go i H ∧ ∃ Nx : Hp → Prop, (∀ H', Nx H' → ∃ m', m' < m ∧ W (i + 1) m' H') ∧ ∀ x H', J.yld i H x H' → gP K p x (wipe σ vs) H' fun σ2 H2 => wipe σ2 vs = wipe σ vs ∧ tT c σ2 H2 fun b H3 =>
        if b = true then tD μi f σ2 H3 fun y H4 => ∃ acc, H4 D = some (.lst acc) ∧ acc.length < sizeLine ∧ Nx (upd H4 D (.lst (acc ++ [y]))) else Nx H3) := by
  have dw := dw (Mi μ M0 σ ρ D) fun a m => m.elim .inl fun z => .inr (by rw [z]; exact hD)
  have sz := dw.sz
  obtain ⟨G, Y, W, hG, hY⟩ := dw.ex
  refine lc_it W (fun i H => Same H1 H ∧ ∃ acc done rest, H D = some (.lst acc) ∧ acc.length ≤ i ∧ RpAll (Mi μ M0 σ ρ D) H acc done ∧ lcGo p c f (wipeR (shutR μ ρ) vs) (items.drop i) = some rest ∧ done ++ rest = res) ⟨smN hD, [], [], res, upd_same, Nat.le_refl _, .nil, e, rfl⟩ (fun i H hi h => hG H (.of h.1)) (fun i v H H' hi h y => ?_) (fun H h => ?_)
  · obtain ⟨sm, acc, done, rest, eD, la, ra, er, et⟩ := h
    obtain ⟨d, ed, s2, rv⟩ := hY i v H H' (.of sm) y
    rw [drop_at ed] at er
    unfold lcGo at er
    obtain ⟨ρ1, e1, er⟩ := some_bind er
    obtain ⟨b, eb, er⟩ := some_bind er
    have Rin := R.inner (μ := μ) hD (sm.trans s2) (s2 _ _ eD) vs
    refine bindP.ok (pr := pr) Rin ?_ hp e1 fun σ2 R2 B2 => ⟨wipe_eq B2.oth B2.len hs, _, _, ρ1, b, R2, eb, fun H3 s3 => ?_⟩
    · rcases rv with rv | ⟨zp, a, xs, ds, z1, z2, z3, z4⟩
      · exact .inl (rv.reM fun a m => .inl (Mi.noOwn a m))
      · exact .inr ⟨zp, a, xs, ds, z1, z2, z3, z4.reM fun a m => .inl (Mi.noOwn a m)⟩
    have s13 := (sm.trans s2).trans s3
    cases b with
    | true =>
      obtain ⟨dv, edv, er⟩ := some_bind (show (f ρ1).bind _ = some rest from er)
      obtain ⟨r2, er2, rfl⟩ := some_map er
      refine ⟨_, _, ρ1, dv, R2.mono s3, edv, fun y H4 s4 r4 => ?_⟩
      have s14 := s13.trans s4
      have eD4 := (s2.trans (s3.trans s4)) _ _ eD
      have kp : KpM (Mi μ M0 σ ρ D) H4 (upd H4 D (.lst (acc ++ [y]))) := fun q o n e => by
        rw [upd_ne (fun z => n (.inr z))]
        exact e
      have r4 : Rp (Mi μ M0 σ ρ D) H4 y dv := r4.reM fun a m => .inl (.inl m)
      refine ⟨acc, eD4, by omega, fun q o e => ?_, acc ++ [y], done ++ [dv], r2, upd_same, by rw [List.length_append]; simp; omega, ?_, er2, by rw [← et, List.append_assoc]; rfl⟩
      · rw [upd_ne (ne_of_none e hD)]
        exact s14 _ _ e
      · exact ((ra.mono (.of (s2.trans (s3.trans s4)))).mono kp).app (.cons (r4.mono kp) .nil)
    | false =>
      exact ⟨s13, acc, done, rest, (s2.trans s3) _ _ eD, by omega, ra.mono (.of (s2.trans s3)), er, et⟩
  · obtain ⟨sm, acc, done, rest, eD, la, ra, er, et⟩ := h
    rw [List.drop_length] at er
    cases er
    rw [List.append_nil] at et
    subst et
    exact q H acc sm eD (by omega) ra
section
variable {X : Cx} {K : PySem.W.Frag}
def oYes : Rho → Option Bool := fun _ => some true
theorem _root_.L2.PTs.wk {es : List Expr} {t t' : TT} (h : PTs X es t) (m : ∀ σ H Q, t' σ H Q → t σ H Q) : PTs X es t' := ⟨fun pn s σ H Q I q => h.run pn s σ H Q I (m _ _ _ q)⟩
theorem dTs_nil : PTs X [] (tT oYes) := pts_nil.wk fun σ H Q q => by
  obtain ⟨M0, H0, ρ, b, R, e, q⟩ := q
  cases e
  exact q _ (Same.refl _)
/-- a new list, whose address is nobody's -/
def tN (f : EF) : TE := fun σ H Q => ∃ M0 H0 ρ ds, Rs M0 H0 H σ ρ ∧ f ρ = some (.list ds) ∧ ∀ p vs H', H p = none → Same H H' → H' p = some (.lst vs) → vs.length ≤ sizeLine → RpAll (Mi true M0 σ ρ p) H' vs ds → Q (.ref p) H'
theorem dLc {it : Rho → Option (List D)} {p : Pat} {c : Rho → Option Bool} {f : EF} {vs : List Nat} {μ μi pr : Bool} (hp : p.fits pr = true) (hs : ∀ j, j ∈ slP p → j ∈ vs) {σ : L2.St} {H : Hp} {Q : VK} (q : tD μ (eLc μ vs it p c f) σ H Q) : tLc (iD μ pr it) (gP K p) (tT c) (tD μi f) vs σ H Q := by
  obtain ⟨M0, H0, ρ, d, R, e, q⟩ := q
  obtain ⟨items, ei, e⟩ := some_bind e
  obtain ⟨res, er, rfl⟩ := some_map e
  refine ⟨M0, H0, ρ, items, R, ei, fun J H1 s1 dw D hD => lcCore (R.mono s1) dw hD hp hs er fun H2 acc s2 eD la ra => q _ _ (s1.trans s2) (.lst eD (((R.mono s1).domu μ).not hD) la (ra.reM fun a m => .inl (.inl m)))⟩
theorem nLc {it : Rho → Option (List D)} {p : Pat} {c : Rho → Option Bool} {f : EF} {vs : List Nat} {μi pr : Bool} (hp : p.fits pr = true) (hs : ∀ j, j ∈ slP p → j ∈ vs) {σ : L2.St} {H : Hp} {Q : VK} (q : tN (eLc true vs it p c f) σ H Q) : tLc (iD true pr it) (gP K p) (tT c) (tD μi f) vs σ H Q := by
  obtain ⟨M0, H0, ρ, d, R, e, q⟩ := q
  obtain ⟨items, ei, e⟩ := some_bind e
  obtain ⟨res, er, e⟩ := some_map e
  cases e
  refine ⟨M0, H0, ρ, items, R, ei, fun J H1 s1 dw D hD => lcCore (R.mono s1) dw hD hp hs er fun H2 acc s2 eD la ra => q D acc H2 ?_ (s1.trans s2) eD la ra⟩
  cases z : H D with
  | none => rfl
  | some o => rw [s1 _ _ z] at hD; cases hD
/-! ### statements -/
def sAsg (p : Pat) (f : EF) : Rho → Option Out := fun ρ => (f ρ).bind fun d => (bindP p d ρ).map .nx
theorem dS_asg {st : Stmt} {p : Pat} {f : EF} (h : PS X st (tAsg (tD true f) (gP K p))) : PS X st (tS (sAsg p f)) := h.wk fun Dn σ H q => by
  obtain ⟨M0, H0, ρ, o, R, e, q⟩ := q
  obtain ⟨d, ed, e⟩ := some_bind e
  obtain ⟨ρ1, e1, rfl⟩ := some_map e
  exact ⟨M0, H0, ρ, d, R, ed, fun v H1 s1 r1 => bindP.ok (pr := false) (R.mono s1) (.inl r1) (by cases p <;> rfl) e1 fun σ1 R1 B1 => q σ1 H1 R1 ⟨.of s1, fun p m => .inl (B1.mu p m)⟩⟩
def sRet (f : EF) : Rho → Option Out := fun ρ => (f ρ).map .rt
theorem dS_ret {st : Stmt} {f : EF} {μ : Bool} (h : PS X st (tRet (tD μ f))) : PS X st (tS (sRet f)) := h.wk fun Dn σ H q => by
  obtain ⟨M0, H0, ρ, o, R, e, q⟩ := q
  obtain ⟨d, ed, rfl⟩ := some_map e
  exact ⟨M0, H0, ρ, d, R, ed, fun v H1 s1 r1 => q v H1 (R.sm.trans s1) (r1.reM Mu.lo)⟩
def sRetN : Rho → Option Out := fun _ => some (.rt .none)
theorem dS_retN {pos : Pos} : PS X (.Return none pos) (tS sRetN) := ps_retN.wk fun Dn σ H q => by
  obtain ⟨M0, H0, ρ, o, R, e, q⟩ := q
  cases e
  exact q _ H R.sm .non
def sDrop (f : EF) : Rho → Option Out := fun ρ => (f ρ).map fun _ => .nx ρ
theorem dS_expr {st : Stmt} {f : EF} {μ : Bool} (h : PS X st (tDrop (tD μ f))) : PS X st (tS (sDrop f)) := h.wk fun Dn σ H q => by
  obtain ⟨M0, H0, ρ, o, R, e, q⟩ := q
  obtain ⟨d, ed, rfl⟩ := some_map e
  exact ⟨M0, H0, ρ, d, R, ed, fun v H1 s1 r1 => q σ H1 (R.mono s1) ⟨.of s1, fun p m => .inl m⟩⟩
def sIf (c : Rho → Option Bool) (f g : Rho → Option Out) : Rho → Option Out := fun ρ => (c ρ).bind fun b => if b = true then f ρ else g ρ
/-- from a later heap, where what stood stands -/
def Post (M0 : Addr → Prop) (H0 : Hp) (σ : L2.St) (ρ : Rho) (H : Hp) (Dn : Ends) : Out → Prop
  | .nx ρ' => ∀ σ' H', Rs M0 H0 H' σ' ρ' → Stp M0 σ ρ H σ' ρ' H' → Dn.nx σ' H'
  | .rt d => ∀ v H', Same H0 H' → Rp M0 H' v d → Dn.rt v H'
  | .bk ρ' => ∀ σ' H', Rs M0 H0 H' σ' ρ' → Stp M0 σ ρ H σ' ρ' H' → Dn.bk σ' H'
  | .ct ρ' => ∀ σ' H', Rs M0 H0 H' σ' ρ' → Stp M0 σ ρ H σ' ρ' H' → Dn.ct σ' H'
theorem tS_iff {f : Rho → Option Out} {Dn : Ends} {σ : L2.St} {H : Hp} : tS f Dn σ H ↔ ∃ M0 H0 ρ o, Rs M0 H0 H σ ρ ∧ f ρ = some o ∧ Post M0 H0 σ ρ H Dn o := by
  constructor
  · rintro ⟨M0, H0, ρ, o, R, e, q⟩
    exact ⟨M0, H0, ρ, o, R, e, by cases o <;> exact q⟩
  · rintro ⟨M0, H0, ρ, o, R, e, q⟩
    exact ⟨M0, H0, ρ, o, R, e, by cases o <;> exact q⟩
theorem Post.from {M0 : Addr → Prop} {H0 : Hp} {σ σ1 : L2.St} {ρ ρ1 : Rho} {H H1 : Hp} {Dn : Ends} {o : Out} (st : Stp M0 σ ρ H σ1 ρ1 H1) (p : Post M0 H0 σ ρ H Dn o) : Post M0 H0 σ1 ρ1 H1 Dn o := by
  cases o with
  | nx ρ' => exact fun σ' H' R s => p σ' H' R (st.trans s)
  | rt d => exact p
  | bk ρ' => exact fun σ' H' R s => p σ' H' R (st.trans s)
  | ct ρ' => exact fun σ' H' R s => p σ' H' R (st.trans s)
theorem Stp.of {M0 : Addr → Prop} {σ : L2.St} {ρ : Rho} {H H' : Hp} (s : Same H H') : Stp M0 σ ρ H σ ρ H' := ⟨.of s, fun p m => .inl m⟩
theorem dS_if {c : Expr} {a b : List Stmt} {pos : Pos} {t : Rho → Option Bool} {f g : Rho → Option Out} (hc : PT X c (tT t)) (ha : PSs X a (tS f)) (hb : PSs X b (tS g)) : PS X (.If c a b pos) (tS (sIf t f g)) := (ps_if hc ha hb).wk fun Dn σ H q => by
  obtain ⟨M0, H0, ρ, o, R, e, q⟩ := tS_iff.mp q
  obtain ⟨c, ec, e⟩ := some_bind e
  refine ⟨M0, H0, ρ, c, R, ec, fun H1 s1 => ?_⟩
  cases c with
  | true => exact tS_iff.mpr ⟨M0, H0, ρ, o, R.mono s1, e, q.from (.of s1)⟩
  | false => exact tS_iff.mpr ⟨M0, H0, ρ, o, R.mono s1, e, q.from (.of s1)⟩
def sSeq (f g : Rho → Option Out) : Rho → Option Out := fun ρ => (f ρ).bind fun o => match o with
  | .nx ρ' => g ρ'
  | o => some o
theorem dSs_cons {st : Stmt} {rest : List Stmt} {f g : Rho → Option Out} (h : PS X st (tS f)) (hs : PSs X rest (tS g)) : PSs X (st :: rest) (tS (sSeq f g)) := (pss_cons h hs).wk fun Dn σ H q => by
  obtain ⟨M0, H0, ρ, o, R, e, q⟩ := tS_iff.mp q
  obtain ⟨o1, e1, e⟩ := some_bind e
  refine tS_iff.mpr ⟨M0, H0, ρ, o1, R, e1, ?_⟩
  cases o1 with
  | nx ρ' => exact fun σ' H' R' s => tS_iff.mpr ⟨M0, H0, ρ', o, R', e, q.from s⟩
  | rt d => cases e; exact q
  | bk ρ' => cases e; exact q
  | ct ρ' => cases e; exact q
theorem dSs_one {st : Stmt} {f : Rho → Option Out} (h : PS X st (tS f)) : PSs X [st] (tS f) := pss_one h
def sNil : Rho → Option Out := fun ρ => some (.nx ρ)
theorem dSs_nil : PSs X [] (tS sNil) := pss_nil.wk fun Dn σ H q => by
  obtain ⟨M0, H0, ρ, o, R, e, q⟩ := tS_iff.mp q
  cases e
  exact q σ H R .refl
theorem dS_pass {pos : Pos} : PS X (.Pass pos) (tS sNil) := ps_pass.wk fun Dn σ H q => by
  obtain ⟨M0, H0, ρ, o, R, e, q⟩ := tS_iff.mp q
  cases e
  exact q σ H R .refl
def forGo (p : Pat) (body : Rho → Option Out) : List D → Rho → Option Out
  | [], ρ => some (.nx ρ)
  | x :: xs, ρ => (bindP p x ρ).bind fun ρ1 => (body ρ1).bind fun o => match o with
    | .nx ρ2 => forGo p body xs ρ2
    | .ct ρ2 => forGo p body xs ρ2
    | .bk ρ2 => some (.nx ρ2)
    | .rt d => some (.rt d)
def sFor (it : Rho → Option (List D)) (p : Pat) (body : Rho → Option Out) : Rho → Option Out := fun ρ => (it ρ).bind fun items => forGo p body items ρ
theorem dFor {it : Rho → Option (List D)} {p : Pat} {body : Rho → Option Out} {pr : Bool} (hp : p.fits pr = true) {Dn : Ends} {σ : L2.St} {H : Hp} (q : tS (sFor it p body) Dn σ H) : tFor (iD true pr it) (gP K p) (tS body) Dn σ H := by
  obtain ⟨M0, H0, ρ, o, R, e, q⟩ := tS_iff.mp q
  obtain ⟨items, ei, e⟩ := some_bind e
  refine ⟨M0, H0, ρ, items, R, ei, fun J H1 s1 dw => ⟨fun i m σ' H' => i ≤ items.length ∧ m = items.length - i ∧ ∃ ρ', Rs M0 H0 H' σ' ρ' ∧ Stp M0 σ ρ H1 σ' ρ' H' ∧ forGo p body (items.drop i) ρ' = some o, ⟨_, Nat.zero_le _, rfl, ρ, R.mono s1, .refl, e⟩, ?_⟩⟩
  rintro i m σ' H' ⟨hi, rfl, ρ', R', st, e⟩
  have dw := dw (fun a => Mu true M0 σ' ρ' a ∨ Mu true M0 σ ρ a) fun a m => m.elim (st.ow a) .inl
  obtain ⟨G, Y, W, hG, hY⟩ := dw.ex
  have kp : KpM (fun a => Mu true M0 σ' ρ' a ∨ Mu true M0 σ ρ a) H1 H' := fun p o n e => st.kp p o (fun m => n (.inr m)) e
  by_cases hlt : i < items.length
  · refine .inr ⟨W.goes i H' hlt (hG _ kp), fun σ3 H3 => ∃ ρ3, Rs M0 H0 H3 σ3 ρ3 ∧ Stp M0 σ ρ H1 σ3 ρ3 H3 ∧ forGo p body (items.drop (i + 1)) ρ3 = some o, fun σ3 H3 h => ⟨items.length - (i + 1), by omega, hlt, rfl, h⟩, fun x Hb y => ?_⟩
    obtain ⟨d, ed, s2, rv⟩ := hY i x H' Hb kp (W.yields i H' x Hb hlt (hG _ kp) y)
    rw [drop_at ed] at e
    unfold forGo at e
    obtain ⟨ρ1, e1, e⟩ := some_bind e
    obtain ⟨o1, eo, e⟩ := some_bind e
    refine bindP.ok (pr := pr) (R'.mono s2) ?_ hp e1 fun σ2 R2 B2 => tS_iff.mpr ⟨M0, H0, ρ1, o1, R2, eo, ?_⟩
    · rcases rv with rv | ⟨zp, a, xs, ds, z1, z2, z3, z4⟩
      · exact .inl (rv.reM fun a m => .inl (.inl m))
      · exact .inr ⟨zp, a, xs, ds, z1, z2, z3, z4.reM fun a m => .inl (.inl m)⟩
    have st2 : Stp M0 σ' ρ' H' σ2 ρ1 Hb := ⟨.of s2, fun p m => .inl (B2.mu p m)⟩
    cases o1 with
    | nx ρ2 => exact fun σ3 H3 R3 s3 => ⟨ρ2, R3, (st.trans st2).trans s3, e⟩
    | ct ρ2 => exact fun σ3 H3 R3 s3 => ⟨ρ2, R3, (st.trans st2).trans s3, e⟩
    | bk ρ2 => cases e; exact fun σ3 H3 R3 s3 => q σ3 H3 R3 ((Stp.of s1).trans ((st.trans st2).trans s3))
    | rt d => cases e; exact q
  · have : i = items.length := by omega
    subst this
    rw [List.drop_length] at e
    cases e
    exact .inl ⟨W.stops H' (hG _ kp), q σ' H' R' ((Stp.of s1).trans st)⟩
theorem dS_for {st : Stmt} {it : Rho → Option (List D)} {p : Pat} {body : Rho → Option Out} {pr : Bool} (h : PS X st (tFor (iD true pr it) (gP K p) (tS body))) (hp : p.fits pr = true := by rfl) : PS X st (tS (sFor it p body)) := h.wk fun Dn σ H q => dFor hp q
/-! lists of one's own -/
theorem Rs.ownSet {M0 : Addr → Prop} {H0 H : Hp} {σ : L2.St} {ρ : Rho} {i : Nat} {ds ds' : List D} {p : Addr} {vs vs' : List V} (R : Rs M0 H0 H σ ρ) (e : ρ[i]? = some (some (.own ds))) (es : σ[i]? = some (some (.ref p))) (eH : H p = some (.lst vs)) (l : vs'.length ≤ sizeLine) (r : RpAll (Mu true M0 σ ρ) H vs' ds') :
    Rs M0 H0 (upd H p (.lst vs')) σ (ρ.set i (some (.own ds'))) ∧ Stp M0 σ ρ H σ (ρ.set i (some (.own ds'))) (upd H p (.lst vs')) := by
  have hi : i < ρ.length := (List.getElem?_eq_some_iff.mp e).1
  have mp : Mu true M0 σ ρ p := .inr ⟨rfl, i, ds, e, es⟩
  have mu : ∀ a, Mu true M0 σ (ρ.set i (some (.own ds'))) a → Mu true M0 σ ρ a := fun a m => by
    rcases m with m | ⟨_, j, es', e1, e2⟩
    · exact .inl m
    · rcases set_get e1 with ⟨rfl, _⟩ | ⟨n, e1⟩
      · exact .inr ⟨rfl, i, ds, e, e2⟩
      · exact .inr ⟨rfl, j, es', e1, e2⟩
  have kp : KpM (Mu true M0 σ ρ) H (upd H p (.lst vs')) := fun a o n e => by
    rw [upd_ne (fun z => n (by rw [z]; exact mp))]
    exact e
  have h0 : H0 p = none := by
    obtain ⟨q, us, a, b, c, _⟩ := R.own i ds e
    rw [es] at a
    cases a
    exact c
  refine ⟨⟨fun a o e => ?_, R.dom, by rw [List.length_set]; exact R.len, fun j d e1 => ?_, fun j es' e1 => ?_, fun j v e1 => ?_, fun j k a b q e1 e2 e3 e4 => ?_⟩, kp, fun a m => .inl (mu a m)⟩
  · rw [upd_ne (fun z => by rw [z, h0] at e; cases e)]
    exact R.sm a o e
  · rcases set_get e1 with ⟨_, z⟩ | ⟨n, e1⟩
    · cases z
    · obtain ⟨v, a, b⟩ := R.dat j d e1
      exact ⟨v, a, (b.mono kp).reM fun a m => .inl (mu a m)⟩
  · rcases set_get e1 with ⟨rfl, z⟩ | ⟨n, e1⟩
    · cases z
      exact ⟨p, vs', es, upd_same, h0, l, (r.mono kp).reM fun a m => .inl (mu a m)⟩
    · obtain ⟨q, us, a, b, c, l', r'⟩ := R.own j es' e1
      refine ⟨q, us, a, ?_, c, l', (r'.mono kp).reM fun a m => .inl (mu a m)⟩
      rw [upd_ne (fun z => n (R.inj i j ds es' p e e1 es (by rw [← z]; exact a)))]
      exact b
  · rcases set_get e1 with ⟨_, z⟩ | ⟨n, e1⟩
    · cases z
    · exact R.raw j v e1
  · have f1 : ∃ a', ρ[j]? = some (some (.own a')) := by
      rcases set_get e1 with ⟨rfl, _⟩ | ⟨_, z⟩
      · exact ⟨ds, e⟩
      · exact ⟨a, z⟩
    have f2 : ∃ a', ρ[k]? = some (some (.own a')) := by
      rcases set_get e2 with ⟨rfl, _⟩ | ⟨_, z⟩
      · exact ⟨ds, e⟩
      · exact ⟨b, z⟩
    obtain ⟨a', f1⟩ := f1
    obtain ⟨b', f2⟩ := f2
    exact R.inj j k a' b' q f1 f2 e3 e4
theorem Rs.ownNew {M0 : Addr → Prop} {H0 H H' : Hp} {σ : L2.St} {ρ : Rho} {i : Nat} {ds : List D} {p : Addr} {vs : List V} (R : Rs M0 H0 H σ ρ) (hi : i < ρ.length) (np : H p = none) (s : Same H H') (eH : H' p = some (.lst vs)) (l : vs.length ≤ sizeLine) (r : RpAll (Mi true M0 σ ρ p) H' vs ds) :
    Rs M0 H0 H' (σ.set i (some (.ref p))) (ρ.set i (some (.own ds))) ∧ Stp M0 σ ρ H (σ.set i (some (.ref p))) (ρ.set i (some (.own ds))) H' := by
  have mu : ∀ a, Mu true M0 (σ.set i (some (.ref p))) (ρ.set i (some (.own ds))) a → Mi true M0 σ ρ p a := fun a m => by
    rcases m with m | ⟨_, j, es', e1, e2⟩
    · exact .inl (.inl m)
    · rcases set_get e1 with ⟨rfl, _⟩ | ⟨n, e1⟩
      · rw [set_same (by rw [← R.len]; exact hi)] at e2
        cases e2
        exact .inr rfl
      · rw [set_other n] at e2
        exact .inl (.inr ⟨rfl, j, es', e1, e2⟩)
  have h0 : H0 p = none := by
    cases z : H0 p with
    | none => rfl
    | some o => rw [R.sm _ _ z] at np; cases np
  have re : ∀ a, Mu true M0 (σ.set i (some (.ref p))) (ρ.set i (some (.own ds))) a → Mu true M0 σ ρ a ∨ H a = none := fun a m => by
    rcases mu a m with m | rfl
    · exact .inl m
    · exact .inr np
  refine ⟨⟨R.sm.trans s, R.dom, by rw [List.length_set, List.length_set]; exact R.len, fun j d e1 => ?_, fun j es' e1 => ?_, fun j v e1 => ?_, fun j k a b q e1 e2 e3 e4 => ?_⟩, .of s, re⟩
  · rcases set_get e1 with ⟨_, z⟩ | ⟨n, e1⟩
    · cases z
    · obtain ⟨v, a, b⟩ := R.dat j d e1
      exact ⟨v, by rw [set_other n]; exact a, (b.reM re).mono (.of s)⟩
  · rcases set_get e1 with ⟨rfl, z⟩ | ⟨n, e1⟩
    · cases z
      exact ⟨p, vs, set_same (by rw [← R.len]; exact hi), eH, h0, l, r.reM fun a m => .inl (mu a m)⟩
    · obtain ⟨q, us, a, b, c, l', r'⟩ := R.own j es' e1
      exact ⟨q, us, by rw [set_other n]; exact a, s _ _ b, c, l', (r'.reM re).mono (.of s)⟩
  · rcases set_get e1 with ⟨_, z⟩ | ⟨n, e1⟩
    · cases z
    · rw [set_other n]; exact R.raw j v e1
  · have own : ∀ (m : Nat) (es : List D), ρ[m]? = some (some (.own es)) → σ[m]? = some (some (.ref q)) → q ≠ p := fun m es f1 f2 z => by
      obtain ⟨q', us, a, b, _⟩ := R.own m es f1
      rw [f2] at a
      cases a
      rw [z, np] at b
      cases b
    rcases set_get e1 with ⟨rfl, _⟩ | ⟨n1, f1⟩
    · rcases set_get e2 with ⟨rfl, _⟩ | ⟨n2, f2⟩
      · rfl
      · rw [set_same (by rw [← R.len]; exact hi)] at e3
        cases e3
        rw [set_other n2] at e4
        exact (own k b f2 e4 rfl).elim
    · rw [set_other n1] at e3
      rcases set_get e2 with ⟨rfl, _⟩ | ⟨n2, f2⟩
      · rw [set_same (by rw [← R.len]; exact hi)] at e4
        cases e4
        exact (own j a f1 e3 rfl).elim
      · rw [set_other n2] at e4
        exact R.inj j k a b q f1 f2 e3 e4
def sOwn (i : Nat) (f : EF) : Rho → Option Out := fun ρ => (f ρ).bind fun d => match d with
  | .list ds => if i < ρ.length then some (.nx (ρ.set i (some (.own ds)))) else none
  | _ => none
theorem dS_own {st : Stmt} {i : Nat} {f : EF} (h : PS X st (tAsg (tN f) (gName i))) : PS X st (tS (sOwn i f)) := h.wk fun Dn σ H q => by
  obtain ⟨M0, H0, ρ, o, R, e, q⟩ := tS_iff.mp q
  obtain ⟨d, ed, e⟩ := some_bind e
  cases d <;> try (cases e; done)
  obtain ⟨hi, rfl⟩ := iteS e
  refine ⟨M0, H0, ρ, _, R, ed, fun p vs H1 np s1 eH l r => ?_⟩
  obtain ⟨R1, s1⟩ := R.ownNew hi np s1 eH l r
  exact q _ _ R1 s1
theorem oE_lst {es : List Expr} {pos : Pos} {g : Rho → Option (List D)} (h : PA X es (tA true g)) : PE X (.List es pos) (tN (eLst g)) := (pe_lst h).wk fun σ H Q q => by
  obtain ⟨M0, H0, ρ, d, R, e, q⟩ := q
  obtain ⟨ds, ed, e⟩ := some_bind e
  obtain ⟨l, z⟩ := iteS e
  cases z
  refine ⟨M0, H0, ρ, _, R, ed, fun vs H1 s1 r1 => ⟨by rw [r1.len]; exact l, fun p np => q p vs _ ?_ (s1.trans (smN np)) upd_same (by rw [r1.len]; exact l) ((r1.reM fun a m => ?_).mono (.of (smN np)))⟩⟩
  · cases z : H p with
    | none => rfl
    | some o => rw [s1 _ _ z] at np; cases np
  · rcases m with m | rfl
    · exact .inl m
    · exact .inr np
def sApp (i : Nat) (f : Rho → Option (List D)) : Rho → Option Out := fun ρ => match ρ[i]? with
  | some (some (.own ds)) => (f ρ).bind fun es => match es with
    | [d] => if ds.length < sizeLine then some (.nx (ρ.set i (some (.own (ds ++ [d]))))) else none
    | _ => none
  | _ => none
theorem dS_app {st : Stmt} {i : Nat} {f : Rho → Option (List D)} (h : PS X st (tDrop (tBM K "list" rAppend (tVar i) (tA true f)))) : PS X st (tS (sApp i f)) := h.wk fun Dn σ H q => by
  obtain ⟨M0, H0, ρ, o, R, e, q⟩ := tS_iff.mp q
  unfold sApp at e
  split at e
  · rename_i ds z
    obtain ⟨es, ed, e⟩ := some_bind e
    obtain ⟨p, vs, a, b, c, l, r⟩ := R.own i ds z
    refine ⟨.ref p, a, .inl ⟨rfl, _, SqL.of b⟩, M0, H0, ρ, es, R, ed, fun us H1 s1 r1 => ?_⟩
    match es, r1, e with
    | [d], .cons r1 .nil, e =>
      obtain ⟨l2, rfl⟩ := iteS e
      have hl : vs.length < sizeLine := by rw [r.len]; exact l2
      refine ⟨p, vs, _, rfl, rfl, s1 _ _ b, hl, ?_⟩
      obtain ⟨R1, S1⟩ := (R.mono s1).ownSet z a (s1 _ _ b) (vs' := vs ++ [_]) (by rw [List.length_append]; exact hl) ((r.mono (.of s1)).app (.cons r1 .nil))
      exact q _ _ R1 ((Stp.of s1).trans S1)
  · cases e
end
/-! ### a def -/
def startR (n : Nat) (ds : List D) : Rho := ds.map (fun d => some (.dat d)) ++ List.replicate (n - ds.length) none
theorem RpAll.start {M : Addr → Prop} {H : Hp} {N : List Str} {vs : List V} {ds : List D} (dm : Dom M H) (r : RpAll M H vs ds) : Rs M H H (L2.start N vs) (startR N.length ds) := by
  have get : ∀ (i : Nat) (x : LV), (startR N.length ds)[i]? = some (some x) → ∃ d, ds[i]? = some d ∧ x = .dat d := fun i x e => by
    unfold startR at e
    rw [List.getElem?_append] at e
    split at e
    · rw [List.getElem?_map] at e
      cases z : ds[i]? with
      | none => rw [z] at e; cases e
      | some d => rw [z] at e; cases e; exact ⟨d, rfl, rfl⟩
    · rw [List.getElem?_replicate] at e
      split at e <;> cases e
  have mu : ∀ a, Mu true M (L2.start N vs) (startR N.length ds) a → M a ∨ H a = none := fun a m => by
    rcases m with m | ⟨_, j, es, e, _⟩
    · exact .inl m
    · obtain ⟨d, _, z⟩ := get j _ e
      cases z
  refine ⟨Same.refl _, dm, ?_, fun i d e => ?_, fun i es e => ?_, fun i v e => ?_, fun i j a b p e => ?_⟩
  · unfold startR L2.start
    simp [r.len]
  · obtain ⟨d', ed, z⟩ := get i _ e
    cases z
    obtain ⟨v, a, b⟩ := r.get ed
    refine ⟨v, ?_, b.reM mu⟩
    unfold L2.start
    rw [List.getElem?_append, if_pos (by rw [List.length_map]; exact (List.getElem?_eq_some_iff.mp a).1), List.getElem?_map, a]
    rfl
  · obtain ⟨d', _, z⟩ := get i _ e
    cases z
  · obtain ⟨d', _, z⟩ := get i _ e
    cases z
  · obtain ⟨d', _, z⟩ := get i _ e
    cases z
def Tells (o : Out) (d : D) : Prop := match o with
  | .rt e => e = d
  | .nx _ => d = .none
  | _ => False
theorem okFn {P : Program} {w : World} {K : PySem.W.Frag} {mg : Str → Option Value} {base : Heap} {x qual : Str} {st : Stmt} {f : Addr} {fd : FuncData} {N ps : List Str} {k n : Nat} {g : List D → Option D} (F : Fun K x qual st f fd) (S : FnScope N ps (defScope st)) (hn : n = ps.length)
    (walk : ∀ (cdv : Value) (A : Around) (outer : List Env) (s : Shared) (H : Hp) (E : XK), Room k (A.deeper (envOfC qual (defScope st) s.heap.objs.size f cdv)) →
      ∃ fS, PSs (cxOf CX0 P w K mg base N qual (defScope st) f cdv A outer s H E).nox (defBody st) (tS fS) ∧ ∀ ds d, ds.length = n → g ds = some d → ∃ o, fS (startR N.length ds) = some o ∧ Tells o d) :
    FnOk P w K mg base CX0 (k + 1) f fd ps (spD n g) := by
  refine F.ok S (fun vs H Q E h => ?_) (fun cdv A outer s H vs Q E hr h => ?_)
  · obtain ⟨M, ds, d, dm, r, l, _⟩ := h
    rw [r.len, l, hn]
  · obtain ⟨M, ds, d, dm, r, l, e, q⟩ := h
    obtain ⟨fS, hS, hw⟩ := walk cdv A outer s H E hr
    obtain ⟨o, eo, t⟩ := hw ds d l e
    refine ⟨_, hS, tS_iff.mpr ⟨M, H, _, o, r.start dm, eo, ?_⟩⟩
    cases o with
    | nx ρ' => cases t; exact fun σ' H' R s => q _ _ R.sm .non
    | rt d' => cases t; exact fun v H' s r => q v H' s r
    | bk ρ' => exact t.elim
    | ct ρ' => exact t.elim
end Dl
namespace Rt
open PySem PySem.Spec PyProof.Rows L2
theorem Fu.loc {g : Gd} {b : Nat} {H H' : Hp} (i : Fu g b H) (h1 : H' g.d = H g.d) (h2 : H' g.c = H g.c) (h3 : H' g.r = H g.r) : Fu g b H' := by
  obtain ⟨t, a, l⟩ := i
  obtain ⟨cs, hc, ec⟩ := a.hc
  obtain ⟨rs, hr, er⟩ := a.hr
  exact ⟨t, ⟨by rw [h1]; exact a.hd, ⟨cs, by rw [h2]; exact hc, ec⟩, ⟨rs, by rw [h3]; exact hr, er⟩, a.dc, a.dr, a.cr, a.n0, a.n63, a.t0⟩, l⟩
end Rt
namespace Dl
open PySem PySem.Spec PyProof.Rows L2 Rt
/-! ### what is drawn from: a thing with a store of draws -/
abbrev Pl := Rt.Gd
def _root_.Rt.Gd.h (g : Rt.Gd) : V := .ref g.d
def _root_.Rt.Gd.own (g : Rt.Gd) (p : Addr) : Prop := p = g.d ∨ p = g.c ∨ p = g.r
def _root_.Rt.Gd.inv (g : Rt.Gd) (b : Nat) (H : Hp) : Prop := Fu g b H
theorem _root_.Rt.Gd.alive (g : Rt.Gd) {b : Nat} {H : Hp} {p : Addr} (i : g.inv b H) (o : g.own p) : H p ≠ none := fun e => by
  have f := Fu.off i e
  rcases o with o | o | o
  · exact f.d o
  · exact f.c o
  · exact f.r o
theorem _root_.Rt.Gd.loc (g : Rt.Gd) {b : Nat} {H H' : Hp} (i : g.inv b H) (h : ∀ p, g.own p → H' p = H p) : g.inv b H' := Fu.loc i (h _ (.inl rfl)) (h _ (.inr (.inl rfl))) (h _ (.inr (.inr rfl)))
theorem Pl.same {g : Pl} {b : Nat} {H H' : Hp} (i : g.inv b H) (s : Same H H') : g.inv b H' := g.loc i fun p o => by
  cases e : H p with
  | none => exact (g.alive i o e).elim
  | some u => exact s p u e
/-- readings that draw -/
structure WP (α : Type) where
  w : Rho → Nat → (α → Nat → Prop) → Prop
  m : ∀ {ρ b P Q}, (∀ a b', P a b' → Q a b') → w ρ b P → w ρ b Q
structure Rn (g : Pl) (M0 : Addr → Prop) (H0 H : Hp) (σ : L2.St) (ρ : Rho) (b : Nat) : Prop where
  kp : KpM g.own H0 H
  dom0 : Dom M0 H0
  dom : Dom M0 H
  pl : ∀ p, g.own p → M0 p
  iv : g.inv b H
  len : ρ.length = σ.length
  dat : ∀ (i : Nat) (d : D), ρ[i]? = some (some (.dat d)) → ∃ v, σ[i]? = some (some v) ∧ Rp (Mu true M0 σ ρ) H v d
  own : ∀ (i : Nat) (ds : List D), ρ[i]? = some (some (.own ds)) → ∃ p vs, σ[i]? = some (some (.ref p)) ∧ H p = some (.lst vs) ∧ H0 p = none ∧ vs.length ≤ sizeLine ∧ RpAll (Mu true M0 σ ρ) H vs ds
  raw : ∀ (i : Nat) (v : V), ρ[i]? = some (some (.raw v)) → σ[i]? = some (some v)
  pool : ∀ (i : Nat), ρ[i]? = some (some .pool) → σ[i]? = some (some g.h)
  inj : ∀ (i j : Nat) (a b : List D) (p : Addr), ρ[i]? = some (some (.own a)) → ρ[j]? = some (some (.own b)) → σ[i]? = some (some (.ref p)) → σ[j]? = some (some (.ref p)) → i = j
theorem Rn.up {g : Pl} {M0 : Addr → Prop} {H0 H : Hp} {σ : L2.St} {ρ : Rho} {b : Nat} (R : Rn g M0 H0 H σ ρ b) {H' : Hp} {b' : Nat} (k : KpM g.own H H') (iv : g.inv b' H') : Rn g M0 H0 H' σ ρ b' where
  kp := fun p o n e => k p o n (R.kp p o n e)
  dom0 := R.dom0
  dom := fun p m e => by
    by_cases o : g.own p
    · exact g.alive iv o e
    · cases z : H p with
      | none => exact R.dom p m z
      | some u => rw [k p u o z] at e; cases e
  pl := R.pl
  iv := iv
  len := R.len
  dat := fun i d e => by
    obtain ⟨v, a, c⟩ := R.dat i d e
    exact ⟨v, a, c.mono fun p o n e => k p o (fun z => n (.inl (R.pl p z))) e⟩
  own := fun i ds e => by
    obtain ⟨p, vs, a, c, z, l, r⟩ := R.own i ds e
    exact ⟨p, vs, a, k p _ (fun o => R.dom0 p (R.pl p o) z) c, z, l, r.mono fun p o n e => k p o (fun z => n (.inl (R.pl p z))) e⟩
  raw := R.raw
  pool := R.pool
  inj := R.inj
theorem Rn.mono {g : Pl} {M0 : Addr → Prop} {H0 H : Hp} {σ : L2.St} {ρ : Rho} {b : Nat} (R : Rn g M0 H0 H σ ρ b) {H' : Hp} (s : Same H H') : Rn g M0 H0 H' σ ρ b := R.up (.of s) (Pl.same R.iv s)
theorem Rn.domu {g : Pl} {M0 : Addr → Prop} {H0 H : Hp} {σ : L2.St} {ρ : Rho} {b : Nat} (R : Rn g M0 H0 H σ ρ b) (μ : Bool) : Dom (Mu μ M0 σ ρ) H := fun p m e => by
  rcases m with m | ⟨_, i, ds, e1, e2⟩
  · exact R.dom p m e
  · obtain ⟨q, vs, a, b, _⟩ := R.own i ds e1
    rw [e2] at a
    cases a
    rw [b] at e
    cases e
theorem KpM.tr {M : Addr → Prop} {H H1 H2 : Hp} (a : KpM M H H1) (b : KpM M H1 H2) : KpM M H H2 := fun p o n e => b p o n (a p o n e)
/-- the slots as a reading without draws sees them -/
theorem shut_nown {μ : Bool} {ρ : Rho} {i : Nat} {ds : List D} (e : (shutR μ ρ)[i]? = some (some (.own ds))) : False := by
  rcases seal_get e with ⟨_, z⟩ | ⟨_, _, _, z⟩
  · exact z ds rfl
  · cases z
theorem Rn.rs {g : Pl} {M0 : Addr → Prop} {H0 H : Hp} {σ : L2.St} {ρ : Rho} {b : Nat} (R : Rn g M0 H0 H σ ρ b) (μ : Bool) : Rs (Mu μ M0 σ ρ) H H σ (shutR μ ρ) := by
  have no : ∀ a, Mu true (Mu μ M0 σ ρ) σ (shutR μ ρ) a → Mu μ M0 σ ρ a := fun a m => by
    rcases m with m | ⟨_, i, ds, e, _⟩
    · exact m
    · exact (shut_nown e).elim
  refine ⟨Same.refl _, R.domu μ, by unfold shutR; rw [List.length_map]; exact R.len, fun i d e => ?_, fun i ds e => (shut_nown e).elim, fun i v e => ?_, fun i j a b p e => (shut_nown e).elim⟩
  · rcases seal_get e with ⟨e8, _⟩ | ⟨rfl, ds, e8, z9⟩
    · obtain ⟨v, a, c⟩ := R.dat i d e8
      exact ⟨v, a, c.reM fun a m => Mu.up a (no a m)⟩
    · cases z9
      obtain ⟨p, vs, a, c, z, l, r⟩ := R.own i ds e8
      refine ⟨.ref p, a, .lst c (fun m => ?_) l (r.reM fun a m => Mu.up a (no a m))⟩
      rcases no p m with m | ⟨z, _⟩
      · exact R.dom0 p m z
      · cases z
  · rcases seal_get e with ⟨e8, _⟩ | ⟨_, _, _, z9⟩
    · exact R.raw i v e8
    · cases z9
def tn (f : WP D) : TE := fun σ H Q => ∃ g M0 H0 ρ b, Rn g M0 H0 H σ ρ b ∧ f.w ρ b fun d b' => ∀ v H', KpM g.own H H' → g.inv b' H' → Rp (Mu true M0 σ ρ) H' v d → Q v H'
def tnA (f : WP (List D)) : TA := fun σ H Q => ∃ g M0 H0 ρ b, Rn g M0 H0 H σ ρ b ∧ f.w ρ b fun ds b' => ∀ vs H', KpM g.own H H' → g.inv b' H' → RpAll (Mu true M0 σ ρ) H' vs ds → Q vs H'
def tnT (f : WP Bool) : TT := fun σ H Q => ∃ g M0 H0 ρ b, Rn g M0 H0 H σ ρ b ∧ f.w ρ b fun k b' => ∀ H', KpM g.own H H' → g.inv b' H' → Q k H'
/-! readings -/
def wP {α : Type} (f : Rho → Option α) : WP α := ⟨fun ρ b Q => ∃ d, f (shutR true ρ) = some d ∧ Q d b, fun h ⟨d, e, q⟩ => ⟨d, e, h _ _ q⟩⟩
def wB {α β : Type} (f : WP α) (g : α → Option β) : WP β := ⟨fun ρ b Q => f.w ρ b fun a b' => ∃ d, g a = some d ∧ Q d b', fun h z => f.m (fun a b' ⟨d, e, q⟩ => ⟨d, e, h _ _ q⟩) z⟩
def w2 {α β γ : Type} (f : WP α) (g : WP β) (h : α → β → Option γ) : WP γ := ⟨fun ρ b Q => f.w ρ b fun a b1 => g.w ρ b1 fun c b2 => ∃ d, h a c = some d ∧ Q d b2, fun k z => f.m (fun a b' y => g.m (fun c b2 ⟨d, e, q⟩ => ⟨d, e, k _ _ q⟩) y) z⟩
section
variable {X : Cx} {K : PySem.W.Frag}
theorem nE_pure {e : Expr} {f : EF} (h : PE X e (tD true f)) : PE X e (tn (wP f)) := h.wk fun σ H Q q => by
  obtain ⟨g, M0, H0, ρ, b, R, d, e, q⟩ := q
  exact ⟨_, H, _, d, R.rs true, e, fun v H1 s1 r1 => q v H1 (.of s1) (Pl.same R.iv s1) (r1.reM fun a m => .inl (.inl m))⟩
def wL (f : EF) : WP D := ⟨fun ρ b Q => ∃ d, f (shutR false ρ) = some d ∧ nl d = true ∧ Q d b, fun h ⟨d, e, n, q⟩ => ⟨d, e, n, h _ _ q⟩⟩
theorem nE_loose {e : Expr} {f : EF} {μ : Bool} (h : PE X e (tD μ f)) : PE X e (tn (wL f)) := h.wk fun σ H Q q => by
  obtain ⟨g, M0, H0, ρ, b, R, d, e, n, q⟩ := q
  refine ⟨_, H, _, d, R.rs false, e, fun v H1 s1 r1 => q v H1 (.of s1) (Pl.same R.iv s1) ((r1.reM (M' := M0) fun a m => .inl (.inl (.inl m))).nl n fun a m => ?_)⟩
  rcases m with m | ⟨_, i, ds, e1, e2⟩
  · exact .inl m
  · obtain ⟨p, vs, x, y, _⟩ := (R.mono s1).own i ds e1
    rw [e2] at x
    cases x
    exact .inr ⟨_, y⟩
theorem nT_pure {e : Expr} {f : Rho → Option Bool} (h : PT X e (tT f)) : PT X e (tnT (wP f)) := h.wk fun σ H Q q => by
  obtain ⟨g, M0, H0, ρ, b, R, d, e, q⟩ := q
  exact ⟨_, H, _, d, R.rs true, e, fun H1 s1 => q H1 (.of s1) (Pl.same R.iv s1)⟩
def wTL (f : Rho → Option Bool) : WP Bool := ⟨fun ρ b Q => ∃ d, f (shutR false ρ) = some d ∧ Q d b, fun h ⟨d, e, q⟩ => ⟨d, e, h _ _ q⟩⟩
theorem nT_loose {e : Expr} {f : Rho → Option Bool} (h : PT X e (tT f)) : PT X e (tnT (wTL f)) := h.wk fun σ H Q q => by
  obtain ⟨g, M0, H0, ρ, b, R, d, e, q⟩ := q
  exact ⟨_, H, _, d, R.rs false, e, fun H1 s1 => q H1 (.of s1) (Pl.same R.iv s1)⟩
theorem nOp2 {g : D → D → Option D} {f1 f2 : WP D} {σ : L2.St} {H : Hp} {Q : VK} (q : tn (w2 f1 f2 g) σ H Q) : tOp (rD g) (tn f1) (tn f2) σ H Q := by
  obtain ⟨p, M0, H0, ρ, b, R, q⟩ := q
  refine ⟨p, M0, H0, ρ, b, R, f1.m (fun a b1 q x H1 k1 i1 r1 => ?_) q⟩
  refine ⟨p, M0, H0, ρ, b1, R.up k1 i1, f2.m (fun c b2 ⟨d, e, q⟩ y H2 k2 i2 r2 => ?_) q⟩
  exact ⟨_, a, c, d, ((R.up k1 i1).up k2 i2).domu true, r1.mono fun p o n e => k2 p o (fun z => n (.inl (R.pl p z))) e, r2, e, fun v H3 s3 r3 => q v H3 ((k1.tr k2).tr (.of s3)) (Pl.same i2 s3) r3⟩
theorem nE_op {a b : Expr} {op : Operator} {pos : Pos} {g : D → D → Option D} {f1 f2 : WP D} (o : OpR X (binaryOp op) (rD g)) (ha : PE X a (tn f1)) (hb : PE X b (tn f2)) : PE X (.BinOp a op b pos) (tn (w2 f1 f2 g)) := (pe_op o ha hb).wk fun _ _ _ q => nOp2 q
theorem nE_cmp {a b : Expr} {op : CmpOp} {pos : Pos} {g : D → D → Option D} {f1 f2 : WP D} (o : OpR X (compareOp op) (rD g)) (ha : PE X a (tn f1)) (hb : PE X b (tn f2)) (hm : behindInMarks op b = false) : PE X (.Compare a [op] [b] pos) (tn (w2 f1 f2 g)) := (pe_cmpR o ha hb hm).wk fun _ _ _ q => nOp2 q
theorem nE_ix {a b : Expr} {pos : Pos} {f1 f2 : WP D} (ha : PE X a (tn f1)) (hb : PE X b (tn f2)) (hp : PlainIx b := by exact fun _ _ => rfl) : PE X (.Subscript a b pos) (tn (w2 f1 f2 ixD)) := (pe_ix i_ix ha hb hp).wk fun _ _ _ q => nOp2 q
theorem nTest {f : WP D} {σ : L2.St} {H : Hp} {Q : Bool → Hp → Prop} (q : tnT (wB f bB) σ H Q) : tn f σ H (fun x H1 => ∃ c, x = V.bl c ∧ Q c H1) := by
  obtain ⟨p, M0, H0, ρ, b, R, q⟩ := q
  exact ⟨p, M0, H0, ρ, b, R, f.m (fun d b1 ⟨c, e, q⟩ v H1 k1 i1 r1 => ⟨c, r1.ofB e, q H1 k1 i1⟩) q⟩
theorem nT_cmp {a b : Expr} {op : CmpOp} {pos : Pos} {g : D → D → Option D} {f1 f2 : WP D} (o : OpR X (compareOp op) (rD g)) (ha : PE X a (tn f1)) (hb : PE X b (tn f2)) (hm : behindInMarks op b = false) : PT X (.Compare a [op] [b] pos) (tnT (wB (w2 f1 f2 g) bB)) := (pt_cmpR o ha hb hm).wk fun σ H Q q => nOp2 (nTest q)
theorem nT_val {e : Expr} {f : WP D} (h : PE X e (tn f)) (ht : ∀ (whole : Sem Value), PySem.isTrue e X.env whole = (do
          let v ← whole
          standAt e.pos
          holding [v] (truthy v)) := by intro _; rfl) : PT X e (tnT (wB f bB)) := (pt_val h ht).wk fun σ H Q q => nTest q
def wNot (f : WP Bool) : WP Bool := wB f fun b => some (!b)
theorem nT_not {a : Expr} {pos : Pos} {f : WP Bool} (h : PT X a (tnT f)) : PT X (.UnaryOp .Not a pos) (tnT (wNot f)) := (pt_not h).wk fun σ H Q q => by
  obtain ⟨p, M0, H0, ρ, b, R, q⟩ := q
  exact ⟨p, M0, H0, ρ, b, R, f.m (fun c b1 ⟨d, e, q⟩ H1 k1 i1 => by cases e; exact q H1 k1 i1) q⟩
def wAnd (f g : WP Bool) : WP Bool := ⟨fun ρ b Q => f.w ρ b fun c b1 => if c = true then g.w ρ b1 Q else Q false b1, fun h z => f.m (fun c b1 y => by
  cases c with
  | true => exact g.m h y
  | false => exact h _ _ y) z⟩
def wOr (f g : WP Bool) : WP Bool := ⟨fun ρ b Q => f.w ρ b fun c b1 => if c = true then Q true b1 else g.w ρ b1 Q, fun h z => f.m (fun c b1 y => by
  cases c with
  | true => exact h _ _ y
  | false => exact g.m h y) z⟩
theorem nW_and1 {a : Expr} {pos : Pos} {f : WP Bool} (h : PT X a (tnT f)) : PW X (.BoolOp .And [a] pos) (tnT f) := pw_and1 h
theorem nW_or1 {a : Expr} {pos : Pos} {f : WP Bool} (h : PT X a (tnT f)) : PW X (.BoolOp .Or [a] pos) (tnT f) := pw_or1 h
theorem nW_and {a b : Expr} {rest : List Expr} {pos : Pos} {f g : WP Bool} (ha : PT X a (tnT f)) (hb : PW X (.BoolOp .And (b :: rest) pos) (tnT g)) : PW X (.BoolOp .And (a :: b :: rest) pos) (tnT (wAnd f g)) := (pw_and ha hb).wk fun σ H Q q => by
  obtain ⟨p, M0, H0, ρ, b, R, q⟩ := q
  refine ⟨p, M0, H0, ρ, b, R, f.m (fun c b1 q H1 k1 i1 => ?_) q⟩
  cases c with
  | true => exact ⟨p, M0, H0, ρ, b1, R.up k1 i1, g.m (fun d b2 q H2 k2 i2 => q H2 (k1.tr k2) i2) q⟩
  | false => exact q H1 k1 i1
theorem nW_or {a b : Expr} {rest : List Expr} {pos : Pos} {f g : WP Bool} (ha : PT X a (tnT f)) (hb : PW X (.BoolOp .Or (b :: rest) pos) (tnT g)) : PW X (.BoolOp .Or (a :: b :: rest) pos) (tnT (wOr f g)) := (pw_or ha hb).wk fun σ H Q q => by
  obtain ⟨p, M0, H0, ρ, b, R, q⟩ := q
  refine ⟨p, M0, H0, ρ, b, R, f.m (fun c b1 q H1 k1 i1 => ?_) q⟩
  cases c with
  | true => exact q H1 k1 i1
  | false => exact ⟨p, M0, H0, ρ, b1, R.up k1 i1, g.m (fun d b2 q H2 k2 i2 => q H2 (k1.tr k2) i2) q⟩
def wIf {α : Type} (c : WP Bool) (f g : WP α) : WP α := ⟨fun ρ b Q => c.w ρ b fun k b1 => if k = true then f.w ρ b1 Q else g.w ρ b1 Q, fun h z => c.m (fun k b1 y => by
  cases k with
  | true => exact f.m h y
  | false => exact g.m h y) z⟩
theorem nE_if {a b c : Expr} {pos : Pos} {t : WP Bool} {f g : WP D} (hc : PT X c (tnT t)) (ha : PE X a (tn f)) (hb : PE X b (tn g)) : PE X (c.IfExp a b pos) (tn (wIf t f g)) := (pe_ifExp hc ha hb).wk fun σ H Q q => by
  obtain ⟨p, M0, H0, ρ, b, R, q⟩ := q
  refine ⟨p, M0, H0, ρ, b, R, t.m (fun k b1 q H1 k1 i1 => ?_) q⟩
  cases k with
  | true => exact ⟨p, M0, H0, ρ, b1, R.up k1 i1, f.m (fun d b2 q v H2 k2 i2 r2 => q v H2 (k1.tr k2) i2 r2) q⟩
  | false => exact ⟨p, M0, H0, ρ, b1, R.up k1 i1, g.m (fun d b2 q v H2 k2 i2 r2 => q v H2 (k1.tr k2) i2 r2) q⟩
def wNil : WP (List D) := ⟨fun _ b Q => Q [] b, fun h z => h _ _ z⟩
def wCons (f : WP D) (g : WP (List D)) : WP (List D) := w2 f g fun d ds => some (d :: ds)
theorem nA_nil : PA X [] (tnA wNil) := PA.weak pa_nil fun σ H Q q => by
  obtain ⟨p, M0, H0, ρ, b, R, q⟩ := q
  exact ⟨Q, q [] H .refl R.iv .nil, fun _ _ z => z⟩
theorem nA_cons {e : Expr} {es : List Expr} {f : WP D} {g : WP (List D)} (h : PE X e (tn f)) (hs : PA X es (tnA g)) (he : starEach (e :: es) X.env = (false, eval e X.env) :: starEach es X.env := by rfl) : PA X (e :: es) (tnA (wCons f g)) := PA.weak (pa_cons h hs he) fun σ H Q q => by
  obtain ⟨p, M0, H0, ρ, b, R, q⟩ := q
  refine ⟨Q, ⟨p, M0, H0, ρ, b, R, f.m (fun a b1 q x H1 k1 i1 r1 => ?_) q⟩, fun _ _ z => z⟩
  refine ⟨p, M0, H0, ρ, b1, R.up k1 i1, g.m (fun c b2 ⟨d, e, q⟩ y H2 k2 i2 r2 => ?_) q⟩
  cases e
  exact q _ H2 (k1.tr k2) i2 (.cons (r1.mono fun p o n e => k2 p o (fun z => n (.inl (R.pl p z))) e) r2)
def tupO (ds : List D) : Option D := if ds.length ≤ sizeLine then some (.tuple ds) else none
def lstO (ds : List D) : Option D := if ds.length ≤ sizeLine then some (.list ds) else none
theorem nE_tup {es : List Expr} {x1 : Nat} {pos : Pos} {g : WP (List D)} (h : PA X es (tnA g)) : PE X (.Tuple es x1 pos) (tn (wB g tupO)) := (pe_tupF h).wk fun σ H Q q => by
  obtain ⟨p, M0, H0, ρ, b, R, q⟩ := q
  refine ⟨p, M0, H0, ρ, b, R, g.m (fun ds b1 ⟨d, e, q⟩ vs H1 k1 i1 r1 => ?_) q⟩
  obtain ⟨l, rfl⟩ := iteS e
  exact ⟨by rw [r1.len]; exact l, fun a H2 np s2 t => q _ H2 (k1.tr (.of s2)) (Pl.same i1 s2) (.tup t (((R.up k1 i1).domu true).not np) (by rw [r1.len]; exact l) (r1.mono (.of s2)))⟩
theorem nE_lst {es : List Expr} {pos : Pos} {g : WP (List D)} (h : PA X es (tnA g)) : PE X (.List es pos) (tn (wB g lstO)) := (pe_lst h).wk fun σ H Q q => by
  obtain ⟨p, M0, H0, ρ, b, R, q⟩ := q
  refine ⟨p, M0, H0, ρ, b, R, g.m (fun ds b1 ⟨d, e, q⟩ vs H1 k1 i1 r1 => ?_) q⟩
  obtain ⟨l, rfl⟩ := iteS e
  exact ⟨by rw [r1.len]; exact l, fun a np => q _ _ (k1.tr (.of (smN np))) (Pl.same i1 (smN np)) (.lst upd_same (((R.up k1 i1).domu true).not np) (by rw [r1.len]; exact l) (r1.mono (.of (smN np))))⟩
theorem nCall {g : List D → Option D} {f : WP (List D)} {σ : L2.St} {H : Hp} {Q : VK} (q : tn (wB f g) σ H Q) : tCB (rC g) (tnA f) σ H Q := by
  obtain ⟨p, M0, H0, ρ, b, R, q⟩ := q
  refine ⟨p, M0, H0, ρ, b, R, f.m (fun ds b1 ⟨d, e, q⟩ vs H1 k1 i1 r1 => ?_) q⟩
  exact ⟨_, ds, d, (R.up k1 i1).domu true, r1, e, fun v H2 s2 r2 => q v H2 (k1.tr (.of s2)) (Pl.same i1 s2) r2⟩
theorem nE_cl {k n : Nat} {x : Str} {ps : List Str} {g : List D → Option D} {p pos : Pos} {e : Expr} {es : List Expr} {f : WP (List D)} (C : Cl X.prog X.w X.K X.mg X.base k x ps (spD n g)) (hr : Room k X.A) (hg : Gl X x) (ha : PA X (e :: es) (tnA f))
    (hdb : (x == ("__debug__" : Str)) = false := by decide) (he : starEach (e :: es) X.env = (false, eval e X.env) :: starEach es X.env := by rfl) (hpl : (backTo pos (starEach es X.env)).any (·.1) = false := by rfl) :
    PE X (.Call (.Name x p) (e :: es) [] pos) (tn (wB f (gN n g))) := (pe_cl C hr hg ha hdb he hpl).wk fun σ H Q q => by
  obtain ⟨p, M0, H0, ρ, b, R, q⟩ := q
  refine ⟨p, M0, H0, ρ, b, R, f.m (fun ds b1 ⟨d, e, q⟩ vs H1 k1 i1 r1 => ?_) q⟩
  unfold gN at e
  split at e
  · rename_i l
    rw [List.append_nil]
    exact ⟨_, ds, d, (R.up k1 i1).domu true, r1, l, e, fun v H2 s2 r2 => q v H2 (k1.tr (.of s2)) (Pl.same i1 s2) r2⟩
  · cases e
/-! a def that draws: its first argument is what is drawn from -/
structure GF where
  f : List D → Nat → (D → Nat → Prop) → Prop
  m : ∀ {ds b P Q}, (∀ d b', P d b' → Q d b') → f ds b P → f ds b Q
def spN (n : Nat) (F : GF) : Sp := fun vs H Q _ => ∃ (g : Pl) (M : Addr → Prop) (ws : List V) (ds : List D) (b : Nat), vs = g.h :: ws ∧ (∀ p, g.own p → M p) ∧ Dom M H ∧ g.inv b H ∧ RpAll M H ws ds ∧ ds.length = n ∧
  F.f ds b fun d b' => ∀ v H', KpM g.own H H' → g.inv b' H' → Rp M H' v d → Q v H'
def wCall (i n : Nat) (F : GF) (f : WP (List D)) : WP D := ⟨fun ρ b Q => ρ[i]? = some (some .pool) ∧ f.w ρ b fun ds b1 => ds.length = n ∧ F.f ds b1 Q, fun h z => ⟨z.1, f.m (fun ds b1 y => ⟨y.1, F.m h y.2⟩) z.2⟩⟩
theorem nE_draw {k n : Nat} {x : Str} {ps : List Str} {F : GF} {p pos : Pos} {e : Expr} {es : List Expr} {f : WP (List D)} {i : Nat} (C : Cl X.prog X.w X.K X.mg X.base k x ps (spN n F)) (hr : Room k X.A) (hg : Gl X x) (he0 : PE X e (tVar i)) (ha : PA X es (tnA f))
    (hdb : (x == ("__debug__" : Str)) = false := by decide) (he : starEach (e :: es) X.env = (false, eval e X.env) :: starEach es X.env := by rfl) (hpl : (backTo pos (starEach es X.env)).any (·.1) = false := by rfl) :
    PE X (.Call (.Name x p) (e :: es) [] pos) (tn (wCall i n F f)) := (pe_cl C hr hg (pa_cons he0 ha he) hdb he hpl).wk fun σ H Q q => by
  obtain ⟨p, M0, H0, ρ, b, R, ei, q⟩ := q
  refine ⟨_, R.pool i ei, p, M0, H0, ρ, b, R, f.m (fun ds b1 ⟨l, q⟩ vs H1 k1 i1 r1 => ?_) q⟩
  show spN n F ((p.h :: vs) ++ []) H1 Q E0
  rw [List.append_nil]
  exact ⟨p, _, vs, ds, b1, rfl, fun a o => .inl (R.pl a o), (R.up k1 i1).domu true, i1, r1, l, F.m (fun d b2 q v H2 k2 i2 r2 => q v H2 (k1.tr k2) i2 r2) q⟩
/-! ### walks and comprehensions -/
def inn (pr : Bool) (it : WP (List D)) : TI := fun σ H R => ∃ g M0 H0 ρ b, Rn g M0 H0 H σ ρ b ∧ it.w ρ b fun items b' => ∀ J H', KpM g.own H H' → g.inv b' H' → (∀ M', (∀ a, M' a → Mu true M0 σ ρ a ∨ H' a = none) → DW pr M' H' J items) → R J H'
theorem nI_pure {tg e : Expr} {pr : Bool} {it : Rho → Option (List D)} (h : PI X tg e (iD true pr it)) : PI X tg e (inn pr (wP it)) := h.wk fun σ H Q q => by
  obtain ⟨g, M0, H0, ρ, b, R, d, e, q⟩ := q
  exact ⟨_, H, _, d, R.rs true, e, fun J H1 s1 dw => q J H1 (.of s1) (Pl.same R.iv s1) fun M' hM => dw M' fun a m => (hM a m).elim (fun z => .inl (.inl z)) .inr⟩
def wI (it : Rho → Option (List D)) : WP (List D) := ⟨fun ρ b Q => ∃ d, it (shutR false ρ) = some d ∧ Q d b, fun h ⟨d, e, q⟩ => ⟨d, e, h _ _ q⟩⟩
theorem nI_ran1 {tg a : Expr} {p pos : Pos} {f : WP (List D)} (hg : Gl X "range") (hm : X.mg "range" = none) (ha : PA X [a] (tnA f)) (hs : starEach [a] X.env = [(false, eval a X.env)] := by rfl) : PI X tg (.Call (.Name "range" p) [a] [] pos) (inn false (wB f ran1D)) := (pi_range1 hg hm ha hs).wk fun σ H R q => by
  obtain ⟨p, M0, H0, ρ, b, Rr, q⟩ := q
  refine ⟨p, M0, H0, ρ, b, Rr, f.m (fun ds b1 ⟨d, e, q⟩ vs H1 k1 i1 r1 => ?_) q⟩
  cases r1 with
  | nil => cases e
  | cons h t =>
    cases t with
    | nil =>
      cases h <;> try (cases e; done)
      obtain ⟨l, rfl⟩ := iteS e
      exact ⟨_, rfl, l.1, by omega, q _ _ k1 i1 fun M' hM => DW.rng (szR (by omega))⟩
    | cons h2 t => cases h <;> cases e
theorem Rn.inner {g : Pl} {M0 : Addr → Prop} {H0 H H2 : Hp} {σ : L2.St} {ρ : Rho} {b b2 : Nat} {D : Addr} {acc : List V} (R : Rn g M0 H0 H σ ρ b) (hD : H D = none) (k : KpM g.own H H2) (i2 : g.inv b2 H2) (eD : H2 D = some (.lst acc)) (vs : List Nat) : Rn g (Mi true M0 σ ρ D) H2 H2 (wipe σ vs) (wipeR (shutR true ρ) vs) b2 := by
  have no : ∀ (vs : List Nat) a, Mu true (Mi true M0 σ ρ D) (wipe σ vs) (wipeR (shutR true ρ) vs) a → Mi true M0 σ ρ D a := fun vs a m => Mi.noOwn a m
  have nown : ∀ (vs : List Nat) (i : Nat) (ds : List Dl.D), (wipeR (shutR true ρ) vs)[i]? = some (some (.own ds)) → False := by
    intro vs
    induction vs with
    | nil => intro i ds e; exact shut_nown e
    | cons v vs ih =>
      intro i ds e
      rcases set_get (show ((wipeR (shutR true ρ) vs).set v none)[i]? = _ from e) with ⟨_, z⟩ | ⟨_, z⟩
      · cases z
      · exact ih i ds z
  have lv : ∀ (vs : List Nat) (i : Nat) (x : LV), (wipeR (shutR true ρ) vs)[i]? = some (some x) → ρ[i]? = some (some x) ∧ i ∉ vs := by
    intro vs
    induction vs with
    | nil =>
      intro i x e
      rcases seal_get (show (shutR true ρ)[i]? = _ from e) with ⟨e, _⟩ | ⟨z, _⟩
      · exact ⟨e, by simp⟩
      · cases z
    | cons v vs ih =>
      intro i x e
      rcases set_get (show ((wipeR (shutR true ρ) vs).set v none)[i]? = _ from e) with ⟨_, z⟩ | ⟨n, z⟩
      · cases z
      · have := ih i x z
        exact ⟨this.1, by simp only [List.mem_cons, not_or]; exact ⟨fun w => n w.symm, this.2⟩⟩
  have dm : Dom (Mi true M0 σ ρ D) H2 := fun p m => by
    rcases m with m | rfl
    · exact (R.up k i2).domu true p m
    · rw [eD]; intro z; cases z
  refine ⟨.refl, dm, dm, fun p o => .inl (.inl (R.pl p o)), i2, ?_, fun i d e => ?_, fun i ds e => (nown vs i ds e).elim, fun i v e => ?_, fun i e => ?_, fun i j a b p e => (nown vs i _ e).elim⟩
  · have : ∀ vs : List Nat, (wipeR (shutR true ρ) vs).length = ρ.length := by
      intro vs
      induction vs with
      | nil => unfold wipeR shutR; rw [List.length_map]
      | cons v vs ih => unfold wipeR; rw [List.length_set, ih]
    rw [this, wipe_len, R.len]
  · obtain ⟨e1, nv⟩ := lv vs i _ e
    obtain ⟨v, a, c⟩ := R.dat i d e1
    refine ⟨v, by rw [wipe_get nv]; exact a, (c.reM (M' := Mu true (Mi true M0 σ ρ D) (wipe σ vs) (wipeR (shutR true ρ) vs)) fun a m => ?_).mono fun p o n e => k p o (fun z => n (.inl (.inl (.inl (R.pl p z))))) e⟩
    rcases no vs a m with m | rfl
    · exact .inl m
    · exact .inr hD
  · obtain ⟨e1, nv⟩ := lv vs i _ e
    rw [wipe_get nv]
    exact R.raw i v e1
  · obtain ⟨e1, nv⟩ := lv vs i _ e
    rw [wipe_get nv]
    exact R.pool i e1
theorem Rn.set {g : Pl} {M0 : Addr → Prop} {H0 H : Hp} {σ : L2.St} {ρ : Rho} {b : Nat} {i : Nat} {v : V} {d : D} (R : Rn g M0 H0 H σ ρ b) (r : Rp (Mu true M0 σ ρ) H v d) : Rn g M0 H0 H (σ.set i (some v)) (ρ.set i (some (.dat d))) b := by
  have sh : ∀ a, Mu true M0 (σ.set i (some v)) (ρ.set i (some (.dat d))) a → Mu true M0 σ ρ a ∨ H a = none := fun a m => .inl (Mu.shrink (fun ds e => by cases e) a m)
  refine ⟨R.kp, R.dom0, R.dom, R.pl, R.iv, by rw [List.length_set, List.length_set]; exact R.len, fun j d' e => ?_, fun j ds e => ?_, fun j w e => ?_, fun j e => ?_, fun j k a b p e1 e2 e3 e4 => ?_⟩
  · rcases set_get e with ⟨rfl, e9⟩ | ⟨n, e⟩
    · cases e9
      have hl : i < ρ.length := by
        have := (List.getElem?_eq_some_iff.mp e).1
        rwa [List.length_set] at this
      exact ⟨v, set_same (by rw [← R.len]; exact hl), r.reM sh⟩
    · obtain ⟨w, x, y⟩ := R.dat j d' e
      exact ⟨w, by rw [set_other n]; exact x, y.reM sh⟩
  · rcases set_get e with ⟨rfl, e9⟩ | ⟨n, e⟩
    · cases e9
    · obtain ⟨p, vs, x, y, z, l, w⟩ := R.own j ds e
      exact ⟨p, vs, by rw [set_other n]; exact x, y, z, l, w.reM sh⟩
  · rcases set_get e with ⟨rfl, e9⟩ | ⟨n, e⟩
    · cases e9
    · rw [set_other n]; exact R.raw j w e
  · rcases set_get e with ⟨rfl, e9⟩ | ⟨n, e⟩
    · cases e9
    · rw [set_other n]; exact R.pool j e
  · rcases set_get e1 with ⟨rfl, e⟩ | ⟨n1, f1⟩
    · cases e
    rcases set_get e2 with ⟨rfl, e⟩ | ⟨n2, f2⟩
    · cases e
    rw [set_other n1] at e3
    rw [set_other n2] at e4
    exact R.inj j k a b p f1 f2 e3 e4
mutual
theorem bindP.okN {K : PySem.W.Frag} {g : Pl} {M0 : Addr → Prop} {H0 H : Hp} {b : Nat} : ∀ {p : Pat} {σ : L2.St} {ρ ρ' : Rho} {v : V} {d : D} {Q : L2.St → Hp → Prop} {pr : Bool}, Rn g M0 H0 H σ ρ b → RpI pr (Mu true M0 σ ρ) H v d → p.fits pr = true → bindP p d ρ = some ρ' →
    (∀ σ', Rn g M0 H0 H σ' ρ' b → Bnd M0 σ ρ (slP p) σ' ρ' → Q σ' H) → gP K p v σ H Q
  | .nm i, σ, ρ, ρ', v, d, Q, pr, R, r, ft, e, q => by
    have hpr : pr = false := by cases pr <;> first | rfl | cases ft
    subst hpr
    have r : Rp (Mu true M0 σ ρ) H v d := by
      rcases r with r | ⟨z, _⟩
      · exact r
      · cases z
    unfold bindP at e
    obtain ⟨l, rfl⟩ := iteS e
    refine q _ (R.set r) ⟨fun j hj => set_other fun z => hj (by rw [z]; exact List.mem_singleton.mpr rfl), List.length_set .., Mu.shrink fun ds e => by cases e⟩
  | .tp ps, σ, ρ, ρ', v, d, Q, pr, R, r, ft, e, q => by
    rcases r with r | ⟨_, a, xs, ds, rfl, rfl, t, r⟩
    · cases r <;> try (cases e; done)
      rename_i xs ds t n l r
      have hl := bindPs.len (show bindPs ps ds ρ = some ρ' from e)
      exact ⟨_, xs, rfl, t.sq, by rw [r.len]; exact hl, bindPs.okN R r e q⟩
    · have hl := bindPs.len (show bindPs ps ds ρ = some ρ' from e)
      exact ⟨_, xs, rfl, SqT.of t, by rw [r.len]; exact hl, bindPs.okN R r e q⟩
theorem bindPs.okN {K : PySem.W.Frag} {g : Pl} {M0 : Addr → Prop} {H0 H : Hp} {b : Nat} : ∀ {ps : Pats} {σ : L2.St} {ρ ρ' : Rho} {vs : List V} {ds : List D} {Q : L2.St → Hp → Prop}, Rn g M0 H0 H σ ρ b → RpAll (Mu true M0 σ ρ) H vs ds → bindPs ps ds ρ = some ρ' →
    (∀ σ', Rn g M0 H0 H σ' ρ' b → Bnd M0 σ ρ (slPs ps) σ' ρ' → Q σ' H) → gPs K ps vs σ H Q
  | .nil, σ, ρ, ρ', vs, ds, Q, R, r, e, q => by
    cases r with
    | nil => cases e; exact ⟨rfl, q σ R ⟨fun _ _ => rfl, rfl, fun a m => m⟩⟩
    | cons h t => cases e
  | .cons p ps, σ, ρ, ρ', vs, ds, Q, R, r, e, q => by
    cases r with
    | nil => cases e
    | cons h t =>
      unfold bindPs at e
      obtain ⟨ρ1, e1, e⟩ := some_bind e
      refine ⟨_, _, rfl, bindP.okN (pr := false) R (.inl h) (by cases p <;> rfl) e1 fun σ1 R1 B1 => ?_⟩
      refine bindPs.okN R1 (t.reM fun a m => .inl (B1.mu a m)) e fun σ2 R2 B2 => q σ2 R2 ⟨fun j hj => ?_, B2.len.trans B1.len, fun a m => B1.mu a (B2.mu a m)⟩
      have hj : j ∉ slP p ++ slPs ps := hj
      rw [List.mem_append, not_or] at hj
      rw [B2.oth j hj.2, B1.oth j hj.1]
end
def lcN (p : Pat) (c : WP Bool) (f : WP D) (ρ : Rho) : List D → Nat → (List D → Nat → Prop) → Prop
  | [], b, Q => Q [] b
  | x :: xs, b, Q => ∃ ρ1, bindP p x ρ = some ρ1 ∧ c.w ρ1 b fun k b1 => if k = true then f.w ρ1 b1 fun d b2 => lcN p c f ρ xs b2 fun r b3 => Q (d :: r) b3 else lcN p c f ρ xs b1 Q
theorem lcN.mono {p : Pat} {c : WP Bool} {f : WP D} {ρ : Rho} : ∀ {xs : List D} {b : Nat} {P Q : List D → Nat → Prop}, (∀ r b, P r b → Q r b) → lcN p c f ρ xs b P → lcN p c f ρ xs b Q
  | [], _, _, _, h, z => h _ _ z
  | x :: xs, b, P, Q, h, ⟨ρ1, e, z⟩ => ⟨ρ1, e, c.m (fun k b1 y => by
      cases k with
      | true => exact f.m (fun d b2 y => lcN.mono (fun r b3 y => h _ _ y) y) y
      | false => exact lcN.mono h y) z⟩
def wLc (vs : List Nat) (it : WP (List D)) (p : Pat) (c : WP Bool) (f : WP D) : WP D := ⟨fun ρ b Q => it.w ρ b fun items b1 => lcN p c f (wipeR (shutR true ρ) vs) items b1 fun r b2 => Q (.list r) b2, fun h z => it.m (fun items b1 y => lcN.mono (fun r b2 y => h _ _ y) y) z⟩
theorem lcCoreN {g : Pl} {pr : Bool} {M0 : Addr → Prop} {H0 H1 : Hp} {σ : L2.St} {ρ : Rho} {b : Nat} {J : It} {items : List D} {p : Pat} {c : WP Bool} {f : WP D} {vs : List Nat} {D : Addr} {Qd : Hp → Prop} {P : List Dl.D → Nat → Prop}
    (R : Rn g M0 H0 H1 σ ρ b) (dw : ∀ M', (∀ a, M' a → Mu true M0 σ ρ a ∨ H1 a = none) → DW pr M' H1 J items) (hD : H1 D = none) (hp : p.fits pr = true) (hs : ∀ j, j ∈ slP p → j ∈ vs) (e : lcN p c f (wipeR (shutR true ρ) vs) items b P)
    (q : ∀ H acc res b', KpM g.own H1 H → g.inv b' H → H D = some (.lst acc) → acc.length ≤ sizeLine → RpAll (Mi true M0 σ ρ D) H acc res → P res b' → Qd H) :
    ∃ W : Nat → Nat → Hp → Prop, (∃ m, W 0 m (upd H1 D (.lst []))) ∧ ∀ i m H, W i m H →
      (J.stop i H ∧ Qd H) ∨ (J.go i H ∧ ∃ Nx : Hp → Prop, (∀ H', Nx H' → ∃ m', m' < m ∧ W (i + 1) m' H') ∧ ∀ x H', J.yld i H x H' → gP K p x (wipe σ vs) H' fun σ2 H2 => wipe σ2 vs = wipe σ vs ∧ tnT c σ2 H2 fun b H3 =>
        if b = true then tn f σ2 H3 fun y H4 => ∃ acc, H4 D = some (.lst acc) ∧ acc.length < sizeLine ∧ Nx (upd H4 D (.lst (acc ++ [y]))) else Nx H3) := by
  have dw := dw (Mi true M0 σ ρ D) fun a m => m.elim .inl fun z => .inr (by rw [z]; exact hD)
  have sz := dw.sz
  obtain ⟨G, Y, W, hG, hY⟩ := dw.ex
  have pI : ∀ {H H' : Hp}, KpM g.own H H' → KpM (Mi true M0 σ ρ D) H H' := fun k p o n e => k p o (fun z => n (.inl (.inl (R.pl p z)))) e
  have gD : ¬ g.own D := fun o => R.dom D (R.pl D o) hD
  refine lc_it W (fun i H => KpM g.own H1 H ∧ ∃ acc done b', H D = some (.lst acc) ∧ acc.length ≤ i ∧ g.inv b' H ∧ RpAll (Mi true M0 σ ρ D) H acc done ∧ lcN p c f (wipeR (shutR true ρ) vs) (items.drop i) b' fun r b3 => P (done ++ r) b3) ⟨.of (smN hD), [], [], b, upd_same, Nat.le_refl _, Pl.same R.iv (smN hD), .nil, e⟩ (fun i H hi h => hG H (pI h.1)) (fun i v H H' hi h y => ?_) (fun H h => ?_)
  · obtain ⟨sm, acc, done, b1, eD, la, iv, ra, er⟩ := h
    obtain ⟨d, ed, s2, rv⟩ := hY i v H H' (pI sm) y
    rw [drop_at ed] at er
    unfold lcN at er
    obtain ⟨ρ1, e1, er⟩ := er
    have Rin := R.inner hD (sm.tr (.of s2)) (Pl.same iv s2) (s2 _ _ eD) vs
    refine bindP.okN (pr := pr) Rin ?_ hp e1 fun σ2 R2 B2 => ⟨wipe_eq B2.oth B2.len hs, _, _, _, ρ1, b1, R2, c.m (fun k b2 er H3 k3 i3 => ?_) er⟩
    · rcases rv with rv | ⟨zp, a, xs, ds, z1, z2, z3, z4⟩
      · exact .inl (rv.reM fun a m => .inl (Mi.noOwn a m))
      · exact .inr ⟨zp, a, xs, ds, z1, z2, z3, z4.reM fun a m => .inl (Mi.noOwn a m)⟩
    have k23 : KpM g.own H H3 := (KpM.of s2).tr k3
    cases k with
    | true =>
      refine ⟨_, _, _, ρ1, b2, R2.up k3 i3, f.m (fun dv b3 er y H4 k4 i4 r4 => ?_) er⟩
      have k24 := k23.tr k4
      have eD4 := k24 _ _ gD eD
      have kp : KpM (Mi true M0 σ ρ D) H4 (upd H4 D (.lst (acc ++ [y]))) := fun q o n e => by
        rw [upd_ne (fun z => n (.inr z))]
        exact e
      have r4 : Rp (Mi true M0 σ ρ D) H4 y dv := r4.reM fun a m => .inl (.inl m)
      refine ⟨acc, eD4, by omega, fun q o n e => ?_, acc ++ [y], done ++ [dv], b3, upd_same, by rw [List.length_append]; simp; omega, g.loc i4 fun p o => upd_ne fun z => gD (by rw [← z]; exact o), ?_, lcN.mono (fun r b z => by rw [List.append_assoc]; exact z) er⟩
      · rw [upd_ne (ne_of_none e hD)]
        exact (sm.tr k24) _ _ n e
      · exact ((ra.mono (pI k24)).mono kp).app (.cons (r4.mono kp) .nil)
    | false =>
      exact ⟨sm.tr k23, acc, done, b2, k23 _ _ gD eD, by omega, i3, ra.mono (pI k23), er⟩
  · obtain ⟨sm, acc, done, b1, eD, la, iv, ra, er⟩ := h
    rw [List.drop_length] at er
    have er : P (done ++ []) b1 := er
    rw [List.append_nil] at er
    exact q H acc done b1 sm iv eD (by omega) ra er
def wYes : WP Bool := ⟨fun _ b Q => Q true b, fun h z => h _ _ z⟩
theorem nTs_nil : PTs X [] (tnT wYes) := pts_nil.wk fun σ H Q q => by
  obtain ⟨p, M0, H0, ρ, b, R, q⟩ := q
  exact q H .refl R.iv
theorem nLcE {it : WP (List D)} {p : Pat} {c : WP Bool} {f : WP D} {vs : List Nat} {pr : Bool} (hp : p.fits pr = true) (hs : ∀ j, j ∈ slP p → j ∈ vs) {σ : L2.St} {H : Hp} {Q : VK} (q : tn (wLc vs it p c f) σ H Q) : tLc (inn pr it) (gP K p) (tnT c) (tn f) vs σ H Q := by
  obtain ⟨g, M0, H0, ρ, b, R, q⟩ := q
  refine ⟨g, M0, H0, ρ, b, R, it.m (fun items b1 q J H1 k1 i1 dw D hD => ?_) q⟩
  exact lcCoreN (R.up k1 i1) dw hD hp hs q fun H2 acc res b2 k2 i2 eD la ra q => q _ _ (k1.tr k2) i2 (.lst eD (((R.up k1 i1).domu true).not hD) la (ra.reM fun a m => .inl (.inl m)))
/-- a new list, with draws -/
def tnN (f : WP D) : TE := fun σ H Q => ∃ g M0 H0 ρ b, Rn g M0 H0 H σ ρ b ∧ f.w ρ b fun d b' => ∃ ds, d = .list ds ∧ ∀ p vs H', H p = none → KpM g.own H H' → g.inv b' H' → H' p = some (.lst vs) → vs.length ≤ sizeLine → RpAll (Mi true M0 σ ρ p) H' vs ds → Q (.ref p) H'
theorem nLcN {it : WP (List D)} {p : Pat} {c : WP Bool} {f : WP D} {vs : List Nat} {pr : Bool} (hp : p.fits pr = true) (hs : ∀ j, j ∈ slP p → j ∈ vs) {σ : L2.St} {H : Hp} {Q : VK} (q : tnN (wLc vs it p c f) σ H Q) : tLc (inn pr it) (gP K p) (tnT c) (tn f) vs σ H Q := by
  obtain ⟨g, M0, H0, ρ, b, R, q⟩ := q
  refine ⟨g, M0, H0, ρ, b, R, it.m (fun items b1 q J H1 k1 i1 dw D hD => ?_) q⟩
  have nD : H D = none := by
    cases z : H D with
    | none => rfl
    | some o =>
      by_cases ow : g.own D
      · exact ((g.alive i1 ow) hD).elim
      · rw [k1 _ _ ow z] at hD; cases hD
  exact lcCoreN (R.up k1 i1) dw hD hp hs q fun H2 acc res b2 k2 i2 eD la ra ⟨ds, z, q⟩ => by
    cases z
    exact q D acc H2 nD (k1.tr k2) i2 eD la ra
end
end Dl
namespace Dl
open PySem PySem.Spec PyProof.Rows L2 Rt
/-! ### statements that draw -/
def PostN (g : Pl) (M0 : Addr → Prop) (H0 : Hp) (σ : L2.St) (ρ : Rho) (H : Hp) (Dn : Ends) : Out → Nat → Prop
  | .nx ρ', b => ∀ σ' H', Rn g M0 H0 H' σ' ρ' b → Stp M0 σ ρ H σ' ρ' H' → Dn.nx σ' H'
  | .rt d, b => ∀ v H', KpM g.own H0 H' → g.inv b H' → Rp M0 H' v d → Dn.rt v H'
  | .bk ρ', b => ∀ σ' H', Rn g M0 H0 H' σ' ρ' b → Stp M0 σ ρ H σ' ρ' H' → Dn.bk σ' H'
  | .ct ρ', b => ∀ σ' H', Rn g M0 H0 H' σ' ρ' b → Stp M0 σ ρ H σ' ρ' H' → Dn.ct σ' H'
theorem PostN.from {g : Pl} {M0 : Addr → Prop} {H0 : Hp} {σ σ1 : L2.St} {ρ ρ1 : Rho} {H H1 : Hp} {Dn : Ends} {o : Out} {b : Nat} (st : Stp M0 σ ρ H σ1 ρ1 H1) (p : PostN g M0 H0 σ ρ H Dn o b) : PostN g M0 H0 σ1 ρ1 H1 Dn o b := by
  cases o with
  | nx ρ' => exact fun σ' H' R s => p σ' H' R (st.trans s)
  | rt d => exact p
  | bk ρ' => exact fun σ' H' R s => p σ' H' R (st.trans s)
  | ct ρ' => exact fun σ' H' R s => p σ' H' R (st.trans s)
def tSn (f : WP Out) : TS := fun Dn σ H => ∃ g M0 H0 ρ b, Rn g M0 H0 H σ ρ b ∧ f.w ρ b fun o b' => PostN g M0 H0 σ ρ H Dn o b'
theorem Rn.stp {g : Pl} {M0 : Addr → Prop} {H0 H H' : Hp} {σ : L2.St} {ρ : Rho} {b : Nat} (R : Rn g M0 H0 H σ ρ b) (k : KpM g.own H H') : Stp M0 σ ρ H σ ρ H' := ⟨fun p o n e => k p o (fun z => n (.inl (R.pl p z))) e, fun p m => .inl m⟩
section
variable {X : Cx} {K : PySem.W.Frag}
def swAsg (p : Pat) (f : WP D) : WP Out := ⟨fun ρ b Q => f.w ρ b fun d b' => ∃ ρ1, bindP p d ρ = some ρ1 ∧ Q (.nx ρ1) b', fun h z => f.m (fun d b' ⟨ρ1, e, y⟩ => ⟨ρ1, e, h _ _ y⟩) z⟩
theorem nS_asg {st : Stmt} {p : Pat} {f : WP D} (h : PS X st (tAsg (tn f) (gP K p))) : PS X st (tSn (swAsg p f)) := h.wk fun Dn σ H q => by
  obtain ⟨g, M0, H0, ρ, b, R, q⟩ := q
  refine ⟨g, M0, H0, ρ, b, R, f.m (fun d b' ⟨ρ1, e1, q⟩ v H1 k1 i1 r1 => ?_) q⟩
  exact bindP.okN (pr := false) (R.up k1 i1) (.inl r1) (by cases p <;> rfl) e1 fun σ1 R1 B1 => q σ1 H1 R1 ((R.stp k1).trans ⟨.refl, fun p m => .inl (B1.mu p m)⟩)
def swRet (f : WP D) : WP Out := ⟨fun ρ b Q => f.w ρ b fun d b' => Q (.rt d) b', fun h z => f.m (fun d b' y => h _ _ y) z⟩
theorem nS_ret {st : Stmt} {f : WP D} (h : PS X st (tRet (tn f))) : PS X st (tSn (swRet f)) := h.wk fun Dn σ H q => by
  obtain ⟨g, M0, H0, ρ, b, R, q⟩ := q
  exact ⟨g, M0, H0, ρ, b, R, f.m (fun d b' q v H1 k1 i1 r1 => q v H1 (R.kp.tr k1) i1 (r1.reM Mu.lo)) q⟩
def swRetL (f : EF) : WP Out := ⟨fun ρ b Q => ∃ d, f (shutR false ρ) = some d ∧ Q (.rt d) b, fun h ⟨d, e, y⟩ => ⟨d, e, h _ _ y⟩⟩
theorem nS_retL {st : Stmt} {f : EF} {μ : Bool} (h : PS X st (tRet (tD μ f))) : PS X st (tSn (swRetL f)) := h.wk fun Dn σ H q => by
  obtain ⟨g, M0, H0, ρ, b, R, d, e, q⟩ := q
  exact ⟨_, H, _, d, R.rs false, e, fun v H1 s1 r1 => q v H1 (R.kp.tr (.of s1)) (Pl.same R.iv s1) (r1.reM fun a m => .inl (.inl (.inl m)))⟩
def swIf (c : WP Bool) (f g : WP Out) : WP Out := wIf c f g
theorem nS_if {c : Expr} {a b : List Stmt} {pos : Pos} {t : WP Bool} {f g : WP Out} (hc : PT X c (tnT t)) (ha : PSs X a (tSn f)) (hb : PSs X b (tSn g)) : PS X (.If c a b pos) (tSn (swIf t f g)) := (ps_if hc ha hb).wk fun Dn σ H q => by
  obtain ⟨p, M0, H0, ρ, b, R, q⟩ := q
  refine ⟨p, M0, H0, ρ, b, R, t.m (fun k b1 q H1 k1 i1 => ?_) q⟩
  cases k with
  | true => exact ⟨p, M0, H0, ρ, b1, R.up k1 i1, f.m (fun o b2 q => q.from (R.stp k1)) q⟩
  | false => exact ⟨p, M0, H0, ρ, b1, R.up k1 i1, g.m (fun o b2 q => q.from (R.stp k1)) q⟩
def swSeq (f g : WP Out) : WP Out := ⟨fun ρ b Q => f.w ρ b fun o b1 => match o with
  | .nx ρ' => g.w ρ' b1 Q
  | o => Q o b1, fun h z => f.m (fun o b1 y => by
    cases o with
    | nx ρ' => exact g.m h y
    | rt d => exact h _ _ y
    | bk ρ' => exact h _ _ y
    | ct ρ' => exact h _ _ y) z⟩
theorem nSs_cons {st : Stmt} {rest : List Stmt} {f g : WP Out} (h : PS X st (tSn f)) (hs : PSs X rest (tSn g)) : PSs X (st :: rest) (tSn (swSeq f g)) := (pss_cons h hs).wk fun Dn σ H q => by
  obtain ⟨p, M0, H0, ρ, b, R, q⟩ := q
  refine ⟨p, M0, H0, ρ, b, R, f.m (fun o b1 q => ?_) q⟩
  cases o with
  | nx ρ' => exact fun σ' H' R' s => ⟨p, M0, H0, ρ', b1, R', g.m (fun o b2 q => q.from s) q⟩
  | rt d => exact q
  | bk ρ' => exact q
  | ct ρ' => exact q
theorem nSs_one {st : Stmt} {f : WP Out} (h : PS X st (tSn f)) : PSs X [st] (tSn f) := pss_one h
def swNil : WP Out := ⟨fun ρ b Q => Q (.nx ρ) b, fun h z => h _ _ z⟩
theorem nSs_nil : PSs X [] (tSn swNil) := pss_nil.wk fun Dn σ H q => by
  obtain ⟨p, M0, H0, ρ, b, R, q⟩ := q
  exact q σ H R .refl
def forN (p : Pat) (body : WP Out) : List D → Rho → Nat → (Out → Nat → Prop) → Prop
  | [], ρ, b, Q => Q (.nx ρ) b
  | x :: xs, ρ, b, Q => ∃ ρ1, bindP p x ρ = some ρ1 ∧ body.w ρ1 b fun o b1 => match o with
    | .nx ρ2 => forN p body xs ρ2 b1 Q
    | .ct ρ2 => forN p body xs ρ2 b1 Q
    | .bk ρ2 => Q (.nx ρ2) b1
    | .rt d => Q (.rt d) b1
theorem forN.mono {p : Pat} {body : WP Out} : ∀ {xs : List D} {ρ : Rho} {b : Nat} {P Q : Out → Nat → Prop}, (∀ o b, P o b → Q o b) → forN p body xs ρ b P → forN p body xs ρ b Q
  | [], _, _, _, _, h, z => h _ _ z
  | x :: xs, ρ, b, P, Q, h, ⟨ρ1, e, z⟩ => ⟨ρ1, e, body.m (fun o b1 y => by
      cases o with
      | nx ρ2 => exact forN.mono h y
      | ct ρ2 => exact forN.mono h y
      | bk ρ2 => exact h _ _ y
      | rt d => exact h _ _ y) z⟩
def swFor (it : WP (List D)) (p : Pat) (body : WP Out) : WP Out := ⟨fun ρ b Q => it.w ρ b fun items b1 => forN p body items ρ b1 Q, fun h z => it.m (fun items b1 y => forN.mono h y) z⟩
theorem nFor {it : WP (List D)} {p : Pat} {body : WP Out} {pr : Bool} (hp : p.fits pr = true) {Dn : Ends} {σ : L2.St} {H : Hp} (q : tSn (swFor it p body) Dn σ H) : tFor (inn pr it) (gP K p) (tSn body) Dn σ H := by
  obtain ⟨g, M0, H0, ρ, b, R, q⟩ := q
  refine ⟨g, M0, H0, ρ, b, R, it.m (fun items b1 q J H1 k1 i1 dw => ⟨fun i m σ' H' => i ≤ items.length ∧ m = items.length - i ∧ ∃ ρ' b', Rn g M0 H0 H' σ' ρ' b' ∧ Stp M0 σ ρ H1 σ' ρ' H' ∧ forN p body (items.drop i) ρ' b' fun o b2 => PostN g M0 H0 σ ρ H Dn o b2, ⟨_, Nat.zero_le _, rfl, ρ, b1, R.up k1 i1, .refl, q⟩, ?_⟩) q⟩
  rintro i m σ' H' ⟨hi, rfl, ρ', b', R', st, e⟩
  have dw := dw (fun a => Mu true M0 σ' ρ' a ∨ Mu true M0 σ ρ a) fun a m => m.elim (st.ow a) .inl
  obtain ⟨G, Y, W, hG, hY⟩ := dw.ex
  have kp : KpM (fun a => Mu true M0 σ' ρ' a ∨ Mu true M0 σ ρ a) H1 H' := fun p o n e => st.kp p o (fun m => n (.inr m)) e
  have stA := (R.stp k1).trans st
  by_cases hlt : i < items.length
  · refine .inr ⟨W.goes i H' hlt (hG _ kp), fun σ3 H3 => ∃ ρ3 b3, Rn g M0 H0 H3 σ3 ρ3 b3 ∧ Stp M0 σ ρ H1 σ3 ρ3 H3 ∧ forN p body (items.drop (i + 1)) ρ3 b3 fun o b2 => PostN g M0 H0 σ ρ H Dn o b2, fun σ3 H3 h => ⟨items.length - (i + 1), by omega, hlt, rfl, h⟩, fun x Hb y => ?_⟩
    obtain ⟨d, ed, s2, rv⟩ := hY i x H' Hb kp (W.yields i H' x Hb hlt (hG _ kp) y)
    rw [drop_at ed] at e
    unfold forN at e
    obtain ⟨ρ1, e1, e⟩ := e
    refine bindP.okN (pr := pr) (R'.mono s2) ?_ hp e1 fun σ2 R2 B2 => ⟨g, M0, H0, ρ1, b', R2, body.m (fun o1 b2 e => ?_) e⟩
    · rcases rv with rv | ⟨zp, a, xs, ds, z1, z2, z3, z4⟩
      · exact .inl (rv.reM fun a m => .inl (.inl m))
      · exact .inr ⟨zp, a, xs, ds, z1, z2, z3, z4.reM fun a m => .inl (.inl m)⟩
    have st2 : Stp M0 σ' ρ' H' σ2 ρ1 Hb := ⟨.of s2, fun p m => .inl (B2.mu p m)⟩
    cases o1 with
    | nx ρ2 => exact fun σ3 H3 R3 s3 => ⟨ρ2, b2, R3, (st.trans st2).trans s3, e⟩
    | ct ρ2 => exact fun σ3 H3 R3 s3 => ⟨ρ2, b2, R3, (st.trans st2).trans s3, e⟩
    | bk ρ2 => exact fun σ3 H3 R3 s3 => (show PostN g M0 H0 σ ρ H Dn (.nx ρ2) b2 from e) σ3 H3 R3 ((stA.trans st2).trans s3)
    | rt d => exact e
  · have : i = items.length := by omega
    subst this
    rw [List.drop_length] at e
    exact .inl ⟨W.stops H' (hG _ kp), (show PostN g M0 H0 σ ρ H Dn (.nx ρ') b' from e) σ' H' R' stA⟩
theorem nS_for {st : Stmt} {it : WP (List D)} {p : Pat} {body : WP Out} {pr : Bool} (h : PS X st (tFor (inn pr it) (gP K p) (tSn body))) (hp : p.fits pr = true := by rfl) : PS X st (tSn (swFor it p body)) := h.wk fun Dn σ H q => nFor hp q
/-! lists of one's own -/
theorem Rn.ownSet {g : Pl} {M0 : Addr → Prop} {H0 H : Hp} {σ : L2.St} {ρ : Rho} {b : Nat} {i : Nat} {ds ds' : List D} {p : Addr} {vs vs' : List V} (R : Rn g M0 H0 H σ ρ b) (e : ρ[i]? = some (some (.own ds))) (es : σ[i]? = some (some (.ref p))) (eH : H p = some (.lst vs)) (l : vs'.length ≤ sizeLine) (r : RpAll (Mu true M0 σ ρ) H vs' ds') :
    Rn g M0 H0 (upd H p (.lst vs')) σ (ρ.set i (some (.own ds'))) b ∧ Stp M0 σ ρ H σ (ρ.set i (some (.own ds'))) (upd H p (.lst vs')) := by
  have hi : i < ρ.length := (List.getElem?_eq_some_iff.mp e).1
  have mp : Mu true M0 σ ρ p := .inr ⟨rfl, i, ds, e, es⟩
  have mu : ∀ a, Mu true M0 σ (ρ.set i (some (.own ds'))) a → Mu true M0 σ ρ a := fun a m => by
    rcases m with m | ⟨_, j, es', e1, e2⟩
    · exact .inl m
    · rcases set_get e1 with ⟨rfl, _⟩ | ⟨n, e1⟩
      · exact .inr ⟨rfl, i, ds, e, e2⟩
      · exact .inr ⟨rfl, j, es', e1, e2⟩
  have kp : KpM (Mu true M0 σ ρ) H (upd H p (.lst vs')) := fun a o n e => by
    rw [upd_ne (fun z => n (by rw [z]; exact mp))]
    exact e
  have h0 : H0 p = none := by
    obtain ⟨q, us, a, b, c, _⟩ := R.own i ds e
    rw [es] at a
    cases a
    exact c
  have np : ¬ M0 p := fun m => R.dom0 p m h0
  refine ⟨⟨fun a o n e => ?_, R.dom0, fun a m => ?_, R.pl, g.loc R.iv fun a o => upd_ne fun z => np (by rw [← z]; exact R.pl a o), by rw [List.length_set]; exact R.len, fun j d e1 => ?_, fun j es' e1 => ?_, fun j v e1 => ?_, fun j e1 => ?_, fun j k a b q e1 e2 e3 e4 => ?_⟩, kp, fun a m => .inl (mu a m)⟩
  · rw [upd_ne (fun z => by rw [z, h0] at e; cases e)]
    exact R.kp a o n e
  · rw [upd_ne (fun z => np (by rw [← z]; exact m))]
    exact R.dom a m
  · rcases set_get e1 with ⟨_, z⟩ | ⟨n, e1⟩
    · cases z
    · obtain ⟨v, a, b⟩ := R.dat j d e1
      exact ⟨v, a, (b.mono kp).reM fun a m => .inl (mu a m)⟩
  · rcases set_get e1 with ⟨rfl, z⟩ | ⟨n, e1⟩
    · cases z
      exact ⟨p, vs', es, upd_same, h0, l, (r.mono kp).reM fun a m => .inl (mu a m)⟩
    · obtain ⟨q, us, a, b, c, l', r'⟩ := R.own j es' e1
      refine ⟨q, us, a, ?_, c, l', (r'.mono kp).reM fun a m => .inl (mu a m)⟩
      rw [upd_ne (fun z => n (R.inj i j ds es' p e e1 es (by rw [← z]; exact a)))]
      exact b
  · rcases set_get e1 with ⟨_, z⟩ | ⟨n, e1⟩
    · cases z
    · exact R.raw j v e1
  · rcases set_get e1 with ⟨_, z⟩ | ⟨n, e1⟩
    · cases z
    · exact R.pool j e1
  · have f1 : ∃ a', ρ[j]? = some (some (.own a')) := by
      rcases set_get e1 with ⟨rfl, _⟩ | ⟨_, z⟩
      · exact ⟨ds, e⟩
      · exact ⟨a, z⟩
    have f2 : ∃ a', ρ[k]? = some (some (.own a')) := by
      rcases set_get e2 with ⟨rfl, _⟩ | ⟨_, z⟩
      · exact ⟨ds, e⟩
      · exact ⟨b, z⟩
    obtain ⟨a', f1⟩ := f1
    obtain ⟨b', f2⟩ := f2
    exact R.inj j k a' b' q f1 f2 e3 e4
theorem Rn.ownNew {g : Pl} {M0 : Addr → Prop} {H0 H H' : Hp} {σ : L2.St} {ρ : Rho} {b b' : Nat} {i : Nat} {ds : List D} {p : Addr} {vs : List V} (R : Rn g M0 H0 H σ ρ b) (hi : i < ρ.length) (np : H p = none) (k : KpM g.own H H') (iv : g.inv b' H') (eH : H' p = some (.lst vs)) (l : vs.length ≤ sizeLine) (r : RpAll (Mi true M0 σ ρ p) H' vs ds) :
    Rn g M0 H0 H' (σ.set i (some (.ref p))) (ρ.set i (some (.own ds))) b' ∧ Stp M0 σ ρ H (σ.set i (some (.ref p))) (ρ.set i (some (.own ds))) H' := by
  have mu : ∀ a, Mu true M0 (σ.set i (some (.ref p))) (ρ.set i (some (.own ds))) a → Mi true M0 σ ρ p a := fun a m => by
    rcases m with m | ⟨_, j, es', e1, e2⟩
    · exact .inl (.inl m)
    · rcases set_get e1 with ⟨rfl, _⟩ | ⟨n, e1⟩
      · rw [set_same (by rw [← R.len]; exact hi)] at e2
        cases e2
        exact .inr rfl
      · rw [set_other n] at e2
        exact .inl (.inr ⟨rfl, j, es', e1, e2⟩)
  have h0 : H0 p = none := by
    cases z : H0 p with
    | none => rfl
    | some o =>
      by_cases ow : g.own p
      · exact (R.dom p (R.pl p ow) np).elim
      · rw [R.kp _ _ ow z] at np; cases np
  have re : ∀ a, Mu true M0 (σ.set i (some (.ref p))) (ρ.set i (some (.own ds))) a → Mu true M0 σ ρ a ∨ H a = none := fun a m => by
    rcases mu a m with m | rfl
    · exact .inl m
    · exact .inr np
  have kp : KpM (Mu true M0 σ ρ) H H' := fun p o n e => k p o (fun z => n (.inl (R.pl p z))) e
  have kp2 : KpM (Mu true M0 (σ.set i (some (.ref p))) (ρ.set i (some (.own ds)))) H H' := fun p o n e => k p o (fun z => n (.inl (R.pl p z))) e
  have RU := R.up k iv
  refine ⟨⟨RU.kp, R.dom0, RU.dom, R.pl, iv, by rw [List.length_set, List.length_set]; exact R.len, fun j d e1 => ?_, fun j es' e1 => ?_, fun j v e1 => ?_, fun j e1 => ?_, fun j k a b q e1 e2 e3 e4 => ?_⟩, kp, re⟩
  · rcases set_get e1 with ⟨_, z⟩ | ⟨n, e1⟩
    · cases z
    · obtain ⟨v, a, b⟩ := R.dat j d e1
      exact ⟨v, by rw [set_other n]; exact a, (b.reM re).mono kp2⟩
  · rcases set_get e1 with ⟨rfl, z⟩ | ⟨n, e1⟩
    · cases z
      exact ⟨p, vs, set_same (by rw [← R.len]; exact hi), eH, h0, l, r.reM fun a m => .inl (mu a m)⟩
    · obtain ⟨q, us, a, b, c, l', r'⟩ := R.own j es' e1
      exact ⟨q, us, by rw [set_other n]; exact a, k _ _ (fun o => R.dom0 q (R.pl q o) c) b, c, l', (r'.reM re).mono kp2⟩
  · rcases set_get e1 with ⟨_, z⟩ | ⟨n, e1⟩
    · cases z
    · rw [set_other n]; exact R.raw j v e1
  · rcases set_get e1 with ⟨_, z⟩ | ⟨n, e1⟩
    · cases z
    · rw [set_other n]; exact R.pool j e1
  · have own : ∀ (m : Nat) (es : List D), ρ[m]? = some (some (.own es)) → σ[m]? = some (some (.ref q)) → q ≠ p := fun m es f1 f2 z => by
      obtain ⟨q', us, a, b, _⟩ := R.own m es f1
      rw [f2] at a
      cases a
      rw [z, np] at b
      cases b
    rcases set_get e1 with ⟨rfl, _⟩ | ⟨n1, f1⟩
    · rcases set_get e2 with ⟨rfl, _⟩ | ⟨n2, f2⟩
      · rfl
      · rw [set_same (by rw [← R.len]; exact hi)] at e3
        cases e3
        rw [set_other n2] at e4
        exact (own k b f2 e4 rfl).elim
    · rw [set_other n1] at e3
      rcases set_get e2 with ⟨rfl, _⟩ | ⟨n2, f2⟩
      · rw [set_same (by rw [← R.len]; exact hi)] at e4
        cases e4
        exact (own j a f1 e3 rfl).elim
      · rw [set_other n2] at e4
        exact R.inj j k a b q f1 f2 e3 e4
def swOwn (i : Nat) (f : WP D) : WP Out := ⟨fun ρ b Q => f.w ρ b fun d b' => ∃ ds, d = .list ds ∧ i < ρ.length ∧ Q (.nx (ρ.set i (some (.own ds)))) b', fun h z => f.m (fun d b' ⟨ds, e, l, y⟩ => ⟨ds, e, l, h _ _ y⟩) z⟩
theorem nS_own {st : Stmt} {i : Nat} {f : WP D} (h : PS X st (tAsg (tnN f) (gName i))) : PS X st (tSn (swOwn i f)) := h.wk fun Dn σ H q => by
  obtain ⟨g, M0, H0, ρ, b, R, q⟩ := q
  refine ⟨g, M0, H0, ρ, b, R, f.m (fun d b' ⟨ds, e, hi, q⟩ => ⟨ds, e, fun p vs H1 np k1 i1 eH l r => ?_⟩) q⟩
  obtain ⟨R1, s1⟩ := R.ownNew hi np k1 i1 eH l r
  exact q _ _ R1 s1
theorem nN_pure {e : Expr} {f : EF} (h : PE X e (tN f)) : PE X e (tnN (wP f)) := h.wk fun σ H Q q => by
  obtain ⟨g, M0, H0, ρ, b, R, d, e, ds, rfl, q⟩ := q
  refine ⟨_, H, _, ds, R.rs true, e, fun p vs H1 np s1 eH l r => q p vs H1 np (.of s1) (Pl.same R.iv s1) eH l (r.reM fun a m => ?_)⟩
  rcases m with m | rfl
  · exact .inl (.inl (.inl m))
  · exact .inl (.inr rfl)
theorem nN_lst {es : List Expr} {pos : Pos} {f : WP (List D)} (h : PA X es (tnA f)) : PE X (.List es pos) (tnN (wB f lstO)) := (pe_lst h).wk fun σ H Q q => by
  obtain ⟨g, M0, H0, ρ, b, R, q⟩ := q
  refine ⟨g, M0, H0, ρ, b, R, f.m (fun ds b1 ⟨d, e, ds', z, q⟩ vs H1 k1 i1 r1 => ?_) q⟩
  obtain ⟨l, rfl⟩ := iteS e
  cases z
  refine ⟨by rw [r1.len]; exact l, fun p np => q p vs _ ?_ (k1.tr (.of (smN np))) (Pl.same i1 (smN np)) upd_same (by rw [r1.len]; exact l) ((r1.reM fun a m => ?_).mono (.of (smN np)))⟩
  · cases z : H p with
    | none => rfl
    | some o =>
      by_cases ow : g.own p
      · exact (g.alive i1 ow np).elim
      · rw [k1 _ _ ow z] at np; cases np
  · rcases m with m | rfl
    · exact .inl m
    · exact .inr np
def swApp (i : Nat) (f : WP (List D)) : WP Out := ⟨fun ρ b Q => ∃ ds, ρ[i]? = some (some (.own ds)) ∧ f.w ρ b fun es b' => ∃ d, es = [d] ∧ ds.length < sizeLine ∧ Q (.nx (ρ.set i (some (.own (ds ++ [d]))))) b', fun h ⟨ds, e, z⟩ => ⟨ds, e, f.m (fun es b' ⟨d, e2, l, y⟩ => ⟨d, e2, l, h _ _ y⟩) z⟩⟩
theorem nS_app {st : Stmt} {i : Nat} {f : WP (List D)} (h : PS X st (tDrop (tBM K "list" rAppend (tVar i) (tnA f)))) : PS X st (tSn (swApp i f)) := h.wk fun Dn σ H q => by
  obtain ⟨g, M0, H0, ρ, b, R, ds, z, q⟩ := q
  obtain ⟨p, vs, a, c, h0, l, r⟩ := R.own i ds z
  refine ⟨.ref p, a, .inl ⟨rfl, _, SqL.of c⟩, g, M0, H0, ρ, b, R, f.m (fun es b1 ⟨d, e, l2, q⟩ us H1 k1 i1 r1 => ?_) q⟩
  subst e
  match us, r1 with
  | [u], .cons r1 .nil =>
    have hl : vs.length < sizeLine := by rw [r.len]; exact l2
    have c1 := k1 _ _ (fun o => R.dom0 p (R.pl p o) h0) c
    refine ⟨p, vs, _, rfl, rfl, c1, hl, ?_⟩
    obtain ⟨R1, S1⟩ := (R.up k1 i1).ownSet z a c1 (vs' := vs ++ [u]) (by rw [List.length_append]; exact hl) ((r.mono fun p o n e => k1 p o (fun z => n (.inl (R.pl p z))) e).app (.cons r1 .nil))
    exact q _ _ R1 ((R.stp k1).trans S1)
def swDrop (f : WP D) : WP Out := ⟨fun ρ b Q => f.w ρ b fun _ b' => Q (.nx ρ) b', fun h z => f.m (fun d b' y => h _ _ y) z⟩
theorem nS_expr {st : Stmt} {f : WP D} (h : PS X st (tDrop (tn f))) : PS X st (tSn (swDrop f)) := h.wk fun Dn σ H q => by
  obtain ⟨g, M0, H0, ρ, b, R, q⟩ := q
  exact ⟨g, M0, H0, ρ, b, R, f.m (fun d b' q v H1 k1 i1 r1 => q σ H1 (R.up k1 i1) (R.stp k1)) q⟩
end
/-! ### a def that draws -/
def startP (n : Nat) (ds : List D) : Rho := some .pool :: (ds.map (fun d => some (.dat d)) ++ List.replicate (n - (ds.length + 1)) none)
theorem RpAll.startN {g : Pl} {M : Addr → Prop} {H : Hp} {N : List Str} {vs : List V} {ds : List D} {b : Nat} (dm : Dom M H) (pl : ∀ p, g.own p → M p) (iv : g.inv b H) (r : RpAll M H vs ds) : Rn g M H H (L2.start N (g.h :: vs)) (startP N.length ds) b := by
  have get : ∀ (i : Nat) (x : LV), (startP N.length ds)[i]? = some (some x) → (i = 0 ∧ x = .pool) ∨ ∃ j d, i = j + 1 ∧ ds[j]? = some d ∧ x = .dat d := fun i x e => by
    cases i with
    | zero => cases e; exact .inl ⟨rfl, rfl⟩
    | succ j =>
      have e : (ds.map (fun d => some (LV.dat d)) ++ List.replicate (N.length - (ds.length + 1)) none)[j]? = some (some x) := e
      rw [List.getElem?_append] at e
      split at e
      · rw [List.getElem?_map] at e
        cases z : ds[j]? with
        | none => rw [z] at e; cases e
        | some d => rw [z] at e; cases e; exact .inr ⟨j, d, rfl, z, rfl⟩
      · rw [List.getElem?_replicate] at e
        split at e <;> cases e
  have mu : ∀ a, Mu true M (L2.start N (g.h :: vs)) (startP N.length ds) a → M a ∨ H a = none := fun a m => by
    rcases m with m | ⟨_, j, es, e, _⟩
    · exact .inl m
    · rcases get j _ e with ⟨_, z⟩ | ⟨_, _, _, _, z⟩ <;> cases z
  refine ⟨.refl, dm, dm, pl, iv, ?_, fun i d e => ?_, fun i es e => ?_, fun i v e => ?_, fun i e => ?_, fun i j a b p e => ?_⟩
  · unfold startP L2.start
    simp [r.len]
  · rcases get i _ e with ⟨_, z⟩ | ⟨j, d', rfl, ed, z⟩
    · cases z
    · cases z
      obtain ⟨v, a, b⟩ := r.get ed
      refine ⟨v, ?_, b.reM mu⟩
      unfold L2.start
      rw [List.map_cons, List.cons_append, List.getElem?_cons_succ, List.getElem?_append, if_pos (by rw [List.length_map]; exact (List.getElem?_eq_some_iff.mp a).1), List.getElem?_map, a]
      rfl
  · rcases get i _ e with ⟨_, z⟩ | ⟨_, _, _, _, z⟩ <;> cases z
  · rcases get i _ e with ⟨_, z⟩ | ⟨_, _, _, _, z⟩ <;> cases z
  · rcases get i _ e with ⟨rfl, _⟩ | ⟨_, _, _, _, z⟩
    · rfl
    · cases z
  · rcases get i _ e with ⟨_, z⟩ | ⟨_, _, _, _, z⟩ <;> cases z
def TellsN (Q : D → Nat → Prop) : Out → Nat → Prop
  | .rt d, b => Q d b
  | .nx _, b => Q .none b
  | _, _ => False
theorem okFnN {P : Program} {w : World} {K : PySem.W.Frag} {mg : Str → Option Value} {base : Heap} {x qual : Str} {st : Stmt} {f : Addr} {fd : FuncData} {N ps : List Str} {k n : Nat} {F0 : GF} (F : Fun K x qual st f fd) (S : FnScope N ps (defScope st)) (hn : n + 1 = ps.length)
    (walk : ∀ (cdv : Value) (A : Around) (outer : List Env) (s : Shared) (H : Hp) (E : XK), Room k (A.deeper (envOfC qual (defScope st) s.heap.objs.size f cdv)) →
      ∃ fS, PSs (cxOf CX0 P w K mg base N qual (defScope st) f cdv A outer s H E).nox (defBody st) (tSn fS) ∧ ∀ ds b Q, ds.length = n → F0.f ds b Q → fS.w (startP N.length ds) b (TellsN Q)) :
    FnOk P w K mg base CX0 (k + 1) f fd ps (spN n F0) := by
  refine F.ok S (fun vs H Q E h => ?_) (fun cdv A outer s H vs Q E hr h => ?_)
  · obtain ⟨g, M, ws, ds, b, rfl, _, _, _, r, l, _⟩ := h
    rw [← hn, ← l, ← r.len]
    rfl
  · obtain ⟨g, M, ws, ds, b, rfl, pl, dm, iv, r, l, q⟩ := h
    obtain ⟨fS, hS, hw⟩ := walk cdv A outer s H E hr
    refine ⟨_, hS, g, M, H, _, b, r.startN dm pl iv, fS.m (fun o b' t => ?_) (hw ds b _ l q)⟩
    cases o with
    | nx ρ' => exact fun σ' H' R s => (show ∀ v H', KpM g.own H H' → g.inv b' H' → Rp M H' v .none → Q v H' from t) _ _ R.kp R.iv .non
    | rt d' => exact t
    | bk ρ' => exact t.elim
    | ct ρ' => exact t.elim
end Dl
namespace Rt
open PySem PySem.Spec PyProof.Rows L2
section
variable {X : Cx}
/-! ### 'm' * n -/
theorem fold_app : ∀ (l : List (Array Nat)) (b : Array Nat), (l.foldl (· ++ ·) b).toList = b.toList ++ (l.map Array.toList).flatten
  | [], b => by simp
  | x :: r, b => by
    show (r.foldl (· ++ ·) (b ++ x)).toList = _
    rw [fold_app r (b ++ x)]
    simp
def rRepS : R2 := fun x y H Q => ∃ (z : Str) (n : Int), x = .str z ∧ y = .int n ∧ 1 ≤ n ∧ n ≤ 100 ∧ 0 < z.length ∧ z.length ≤ 100 ∧ ∀ r : Str, r.cps.toList = (List.replicate n.toNat z.cps.toList).flatten → r.length = n.toNat * z.length → Q (.str r) H
theorem op_repS : OpR X (binaryOp .Mult) rRepS := by
  intro pn s σ H x y v u Q I rx ry h
  obtain ⟨z, n, rfl, rfl, h1, h2, h3, h4, q⟩ := h
  obtain ⟨t, rfl⟩ := rx
  obtain ⟨t', rfl⟩ := ry
  have hl : z.length * n.toNat ≤ 10000 := Nat.le_trans (Nat.mul_le_mul h4 (show n.toNat ≤ 100 by omega)) (by decide)
  have el : ∀ r : Str, r.cps.toList = (List.replicate n.toNat z.cps.toList).flatten → r.length = n.toNat * z.length := fun r e => by
    show r.cps.size = _
    rw [← Array.length_toList, e, List.length_flatten, List.map_replicate, List.sum_replicate_nat]
    show n.toNat * z.cps.toList.length = n.toNat * z.cps.size
    rw [Array.length_toList]
  refine PySem.P.mul_str ?_ (fun _ _ => ?_) (fun _ _ => ?_) ?_
  · rw [decide_eq_false (by omega), decide_eq_false (by omega)]; rfl
  · have : (100 : Int) ≤ (2 ^ 63 - 1) / n := (Int.le_ediv_iff_mul_le (by omega)).mpr (by omega)
    omega
  · show decide (z.length * n.toNat > sizeLine) = false
    exact decide_eq_false (by have := sz (n := z.length * n.toNat) (by omega); omega)
  · rw [if_neg (by omega)]
    by_cases e : n = 1
    · subst e
      rw [if_pos (by rfl)]
      have e1 : z.cps.toList = (List.replicate (1 : Int).toNat z.cps.toList).flatten := by simp
      exact ⟨.str z, H, I, ⟨_, rfl⟩, q z e1 (el z e1)⟩
    · rw [if_neg (by simp [e]; omega)]
      have e1 : (⟨(List.replicate n.toNat z.cps).foldl (· ++ ·) #[]⟩ : Str).cps.toList = (List.replicate n.toNat z.cps.toList).flatten := by
        show ((List.replicate n.toNat z.cps).foldl (· ++ ·) #[]).toList = _
        rw [fold_app, List.map_replicate]
        rfl
      refine ⟨?_, ⟨.str _, H, I.tok _, ⟨_, rfl⟩, q _ e1 (el _ e1)⟩⟩
      rw [el _ e1, Nat.mul_comm]
      exact sz (by omega)
/-! ### min, max of a tuple of ints -/
theorem holds_ints {h : Heap} : ∀ {ns : List Int} {us : List Value}, Vals (ns.map V.int) us → PySem.W.HoldAll h us ns
  | [], _, .nil => .nil
  | n :: r, _, .cons a t => by
    obtain ⟨tk, rfl⟩ := a
    exact .cons ⟨_, .int n tk⟩ (holds_ints t)
theorem minOf_le : ∀ (xs : List Int) (x : Int), PySem.W.minOf x xs ∈ x :: xs ∧ ∀ y ∈ x :: xs, PySem.W.minOf x xs ≤ y
  | [], x => ⟨List.mem_cons_self, fun y h => (by
    have e : y = x := by simpa using h
    subst e
    exact Int.le_refl _)⟩
  | z :: r, x => by
    have ih := minOf_le r (if z < x then z else x)
    have e : PySem.W.minOf x (z :: r) = PySem.W.minOf (if z < x then z else x) r := by
      show r.foldl _ (if decide (z < x) = true then z else x) = r.foldl _ (if z < x then z else x)
      simp only [decide_eq_true_eq]
    rw [e]
    have hm := ih.2 _ List.mem_cons_self
    have hx : (if z < x then z else x) ≤ x := by split <;> omega
    have hz : (if z < x then z else x) ≤ z := by split <;> omega
    refine ⟨?_, fun y h => ?_⟩
    · rcases List.mem_cons.mp ih.1 with h | h
      · rw [h]; split <;> simp
      · exact List.mem_cons_of_mem _ (List.mem_cons_of_mem _ h)
    · rcases List.mem_cons.mp h with h | h
      · rw [h]; exact Int.le_trans hm hx
      · rcases List.mem_cons.mp h with h | h
        · rw [h]; exact Int.le_trans hm hz
        · exact ih.2 y (List.mem_cons_of_mem _ h)
theorem maxOf_ge : ∀ (xs : List Int) (x : Int), PySem.W.maxOf x xs ∈ x :: xs ∧ ∀ y ∈ x :: xs, y ≤ PySem.W.maxOf x xs
  | [], x => ⟨List.mem_cons_self, fun y h => (by
    have e : y = x := by simpa using h
    subst e
    exact Int.le_refl _)⟩
  | z :: r, x => by
    have ih := maxOf_ge r (if x < z then z else x)
    have e : PySem.W.maxOf x (z :: r) = PySem.W.maxOf (if x < z then z else x) r := by
      show r.foldl _ (if decide (x < z) = true then z else x) = r.foldl _ (if x < z then z else x)
      simp only [decide_eq_true_eq]
    rw [e]
    have hm := ih.2 _ List.mem_cons_self
    have hx : x ≤ (if x < z then z else x) := by split <;> omega
    have hz : z ≤ (if x < z then z else x) := by split <;> omega
    refine ⟨?_, fun y h => ?_⟩
    · rcases List.mem_cons.mp ih.1 with h | h
      · rw [h]; split <;> simp
      · exact List.mem_cons_of_mem _ (List.mem_cons_of_mem _ h)
    · rcases List.mem_cons.mp h with h | h
      · rw [h]; exact Int.le_trans hx hm
      · rcases List.mem_cons.mp h with h | h
        · rw [h]; exact Int.le_trans hz hm
        · exact ih.2 y (List.mem_cons_of_mem _ h)
def rMinT (K : PySem.W.Frag) : List V → Hp → VK → Prop := fun vs H Q => ∃ (a : Addr) (ns : List Int), vs = [V.ref a] ∧ SqT K H a (ns.map V.int) ∧ 0 < ns.length ∧ ∀ m, m ∈ ns → (∀ y, y ∈ ns → m ≤ y) → Q (.int m) H
def rMaxT (K : PySem.W.Frag) : List V → Hp → VK → Prop := fun vs H Q => ∃ (a : Addr) (ns : List Int), vs = [V.ref a] ∧ SqT K H a (ns.map V.int) ∧ 0 < ns.length ∧ ∀ m, m ∈ ns → (∀ y, y ∈ ns → y ≤ m) → Q (.int m) H
theorem cr_minT (hc : X.calm = true) (hu : X.A.units + 64 < cLine) : CallR X (.builtin "min") (rMinT X.K) := by
  intro pn s σ H vs us Q I r h
  obtain ⟨a, ns, rfl, hs, hne, q⟩ := h
  obtain ⟨its, rv, hl, _⟩ := I.tuple hs
  rw [Vals.ref1 r]
  cases ns with
  | nil => exact absurd hne (by decide)
  | cons x xs =>
    have hH : PySem.W.HoldAll s.heap its.toArray.toList (x :: xs) := holds_ints (ns := x :: xs) rv
    refine PySem.W.min_tuple_datum (I.ok.hd hc) hl hH (by show X.A.units + 1 + 0 < cLine; omega) fun i v h' tk hv ho hk => ?_
    obtain ⟨as, ho⟩ := ho
    cases ho with
    | int _ t => exact ⟨.int _, H, I.kept hk, ⟨_, rfl⟩, q _ (minOf_le xs x).1 (minOf_le xs x).2⟩
theorem cr_maxT (hc : X.calm = true) (hu : X.A.units + 64 < cLine) : CallR X (.builtin "max") (rMaxT X.K) := by
  intro pn s σ H vs us Q I r h
  obtain ⟨a, ns, rfl, hs, hne, q⟩ := h
  obtain ⟨its, rv, hl, _⟩ := I.tuple hs
  rw [Vals.ref1 r]
  cases ns with
  | nil => exact absurd hne (by decide)
  | cons x xs =>
    have hH : PySem.W.HoldAll s.heap its.toArray.toList (x :: xs) := holds_ints (ns := x :: xs) rv
    refine PySem.W.max_tuple_datum (I.ok.hd hc) hl hH (by show X.A.units + 1 + 0 < cLine; omega) fun i v h' tk hv ho hk => ?_
    obtain ⟨as, ho⟩ := ho
    cases ho with
    | int _ t => exact ⟨.int _, H, I.kept hk, ⟨_, rfl⟩, q _ (maxOf_ge xs x).1 (maxOf_ge xs x).2⟩
end
end Rt
namespace Dl
open PySem PySem.Spec PyProof.Rows L2 Rt
def lenD : List D → Option D
  | [.tuple ds] => some (.int ds.length)
  | [.list ds] => some (.int ds.length)
  | [.str z] => some (.int z.length)
  | _ => none
def boolsD : List D → Option (List Bool)
  | [] => some []
  | .bool b :: ds => (boolsD ds).map (b :: ·)
  | _ :: _ => none
def intsD : List D → Option (List Int)
  | [] => some []
  | .int b :: ds => (intsD ds).map (b :: ·)
  | _ :: _ => none
theorem RpAll.bools {M : Addr → Prop} {H : Hp} : ∀ {vs : List V} {ds : List D} {bs : List Bool}, RpAll M H vs ds → boolsD ds = some bs → vs = bs.map V.bl
  | _, _, _, .nil, e => by cases e; rfl
  | _, _, _, .cons (d := .bool b) h t, e => by
    obtain ⟨r, er, rfl⟩ := some_map e
    cases h
    rw [t.bools er]
    rfl
  | _, _, _, .cons (d := .none) h t, e => nomatch e
  | _, _, _, .cons (d := .int _) h t, e => nomatch e
  | _, _, _, .cons (d := .str _) h t, e => nomatch e
  | _, _, _, .cons (d := .list _) h t, e => nomatch e
  | _, _, _, .cons (d := .tuple _) h t, e => nomatch e
  | _, _, _, .cons (d := .dict _) h t, e => nomatch e
theorem RpAll.ints {M : Addr → Prop} {H : Hp} : ∀ {vs : List V} {ds : List D} {bs : List Int}, RpAll M H vs ds → intsD ds = some bs → vs = bs.map V.int
  | _, _, _, .nil, e => by cases e; rfl
  | _, _, _, .cons (d := .int b) h t, e => by
    obtain ⟨r, er, rfl⟩ := some_map e
    cases h
    rw [t.ints er]
    rfl
  | _, _, _, .cons (d := .none) h t, e => nomatch e
  | _, _, _, .cons (d := .bool _) h t, e => nomatch e
  | _, _, _, .cons (d := .str _) h t, e => nomatch e
  | _, _, _, .cons (d := .list _) h t, e => nomatch e
  | _, _, _, .cons (d := .tuple _) h t, e => nomatch e
  | _, _, _, .cons (d := .dict _) h t, e => nomatch e
def allD : List D → Option D
  | [.list ds] => (boolsD ds).map fun bs => .bool (bs.all id)
  | _ => none
def anyD : List D → Option D
  | [.list ds] => (boolsD ds).map fun bs => .bool (bs.any id)
  | _ => none
def tupD : List D → Option D
  | [.list ds] => some (.tuple ds)
  | [.tuple ds] => some (.tuple ds)
  | _ => none
def lisD : List D → Option D
  | [.list ds] => some (.list ds)
  | [.tuple ds] => some (.list ds)
  | _ => none
def intD : List D → Option D
  | [.int i] => some (.int i)
  | [.bool b] => some (.int (if b = true then 1 else 0))
  | _ => none
def min2D : List D → Option D
  | [.int i, .int j] => some (.int (if j < i then j else i))
  | _ => none
def max2D : List D → Option D
  | [.int i, .int j] => some (.int (if j > i then j else i))
  | _ => none
def minL : List Int → Option Int
  | [] => none
  | x :: xs => some (xs.foldl min x)
def maxL : List Int → Option Int
  | [] => none
  | x :: xs => some (xs.foldl max x)
def absD : List D → Option D
  | [.int i] => some (.int (if i < 0 then -i else i))
  | _ => none
def sumD : List D → Option D
  | [.list ds] => (intsD ds).map fun ns => .int ns.sum
  | _ => none
section
variable {X : Cx}
theorem c_len : CallR X (.builtin "len") (rC lenD) := by
  intro pn s σ H xs us Q I r h
  obtain ⟨M, ds, d, dm, ra, e, q⟩ := h
  match ds, ra, e with
  | [.tuple ds], .cons (@Rp.tup _ _ a xs1 _ t n l r) .nil, e =>
    cases e
    exact call_len pn s σ H _ us Q I ‹_› ⟨.ref a, xs1.length, rfl, .inr ⟨_, t.sq, rfl⟩, by rw [r.len]; exact q _ _ (Same.refl _) (.int _)⟩
  | [.list ds], .cons (@Rp.lst _ _ a xs1 _ t n l r) .nil, e =>
    cases e
    exact call_len pn s σ H _ us Q I ‹_› ⟨.ref a, xs1.length, rfl, .inl ⟨_, SqL.of t, rfl⟩, by rw [r.len]; exact q _ _ (Same.refl _) (.int _)⟩
  | [.str z], .cons (.str _ l) .nil, e =>
    cases e
    exact call_len pn s σ H _ us Q I ‹_› ⟨.str z, z.length, rfl, ⟨l, rfl⟩, q _ _ (Same.refl _) (.int _)⟩
theorem c_all (hc : X.calm = true) : CallR X (.builtin "all") (rC allD) := by
  intro pn s σ H xs us Q I r h
  obtain ⟨M, ds, d, dm, ra, e, q⟩ := h
  match ds, ra, e with
  | [.list ds], .cons (.lst t n l r) .nil, e =>
    obtain ⟨bs, eb, rfl⟩ := some_map e
    exact cr_all hc pn s σ H _ us Q I ‹_› ⟨_, bs, rfl, by rw [← r.bools eb]; exact SqL.of t, q _ _ (Same.refl _) (.bl _)⟩
theorem c_any (hc : X.calm = true) : CallR X (.builtin "any") (rC anyD) := by
  intro pn s σ H xs us Q I r h
  obtain ⟨M, ds, d, dm, ra, e, q⟩ := h
  match ds, ra, e with
  | [.list ds], .cons (.lst t n l r) .nil, e =>
    obtain ⟨bs, eb, rfl⟩ := some_map e
    exact cr_any hc pn s σ H _ us Q I ‹_› ⟨_, bs, rfl, by rw [← r.bools eb]; exact SqL.of t, q _ _ (Same.refl _) (.bl _)⟩
theorem c_sum (hc : X.calm = true) : CallR X (.builtin "sum") (rC sumD) := by
  intro pn s σ H xs us Q I r h
  obtain ⟨M, ds, d, dm, ra, e, q⟩ := h
  match ds, ra, e with
  | [.list ds], .cons (.lst t n l r) .nil, e =>
    obtain ⟨bs, eb, rfl⟩ := some_map e
    exact cr_sum hc pn s σ H _ us Q I ‹_› ⟨_, bs, rfl, by rw [← r.ints eb]; exact SqL.of t, q _ _ (Same.refl _) (.int _)⟩
theorem c_tuple : CallR X (.type "tuple") (rC tupD) := by
  intro pn s σ H xs us Q I r h
  obtain ⟨M, ds, d, dm, ra, e, q⟩ := h
  match ds, ra, e with
  | [.list ds], .cons (.lst t n l r) .nil, e =>
    cases e
    exact call_tupF pn s σ H _ us Q I ‹_› ⟨_, _, rfl, SqL.of t, fun p o H' np od eH => by
      subst eH
      exact q _ _ (smN np) (.tup ⟨o, upd_same, od⟩ (dm.not np) l (r.mono (.of (smN np))))⟩
  | [.tuple ds], .cons (.tup t n l r) .nil, e =>
    cases e
    exact call_tuple_of pn s σ H _ us Q I ‹_› ⟨_, _, rfl, .inr ⟨t.sq, q _ _ (Same.refl _) (.tup t n l r)⟩⟩
theorem c_list : CallR X (.type "list") (rC lisD) := by
  intro pn s σ H xs us Q I r h
  obtain ⟨M, ds, d, dm, ra, e, q⟩ := h
  match ds, ra, e with
  | [.list ds], .cons (.lst t n l r) .nil, e =>
    cases e
    exact call_list_of pn s σ H _ us Q I ‹_› ⟨_, _, rfl, .inl (SqL.of t), fun p np => q _ _ (smN np) (.lst upd_same (dm.not np) l (r.mono (.of (smN np))))⟩
  | [.tuple ds], .cons (.tup t n l r) .nil, e =>
    cases e
    exact call_list_of pn s σ H _ us Q I ‹_› ⟨_, _, rfl, .inr t.sq, fun p np => q _ _ (smN np) (.lst upd_same (dm.not np) l (r.mono (.of (smN np))))⟩
theorem c_int : CallR X (.type "int") (rC intD) := by
  intro pn s σ H xs us Q I r h
  obtain ⟨M, ds, d, dm, ra, e, q⟩ := h
  match ds, ra, e with
  | [.int i], .cons (.int _) .nil, e => cases e; exact call_int1 pn s σ H _ us Q I ‹_› (.inl ⟨_, rfl, q _ _ (Same.refl _) (.int _)⟩)
  | [.bool i], .cons (.bl _) .nil, e => cases e; exact call_int1 pn s σ H _ us Q I ‹_› (.inr ⟨_, rfl, q _ _ (Same.refl _) (.int _)⟩)
theorem c_min2 (hc : X.calm = true) : CallR X (.builtin "min") (rC min2D) := by
  intro pn s σ H xs us Q I r h
  obtain ⟨M, ds, d, dm, ra, e, q⟩ := h
  match ds, ra, e with
  | [.int i, .int j], .cons (.int _) (.cons (.int _) .nil), e => cases e; exact call_min2 hc pn s σ H _ us Q I ‹_› ⟨_, _, rfl, q _ _ (Same.refl _) (.int _)⟩
theorem c_max2 (hc : X.calm = true) : CallR X (.builtin "max") (rC max2D) := by
  intro pn s σ H xs us Q I r h
  obtain ⟨M, ds, d, dm, ra, e, q⟩ := h
  match ds, ra, e with
  | [.int i, .int j], .cons (.int _) (.cons (.int _) .nil), e => cases e; exact call_max2 hc pn s σ H _ us Q I ‹_› ⟨_, _, rfl, q _ _ (Same.refl _) (.int _)⟩
theorem c_abs : CallR X (.builtin "abs") (rC absD) := by
  intro pn s σ H xs us Q I r h
  obtain ⟨M, ds, d, dm, ra, e, q⟩ := h
  match ds, ra, e with
  | [.int i], .cons (.int _) .nil, e => cases e; exact call_abs pn s σ H _ us Q I ‹_› ⟨_, rfl, q _ _ (Same.refl _) (.int _)⟩
theorem dE_callB {x : Str} {p pos : Pos} {e : Expr} {es : List Expr} {id : String} {g : List D → Option D} {f : Rho → Option (List D)} {μ : Bool} (c : CallR X (.builtin id) (rC g)) (hg : Gl X x) (hm : X.mg x = none) (hv : bootBuiltins x = some (.builtin id)) (ha : PA X (e :: es) (tA μ f))
    (hn : x ≠ "__name__" := by decide) (hdb : (x == ("__debug__" : Str)) = false := by decide) (he : starEach (e :: es) X.env = (false, eval e X.env) :: starEach es X.env := by rfl) (hpl : (backTo pos (starEach es X.env)).any (·.1) = false := by rfl) :
    PE X (.Call (.Name x p) (e :: es) [] pos) (tD μ (eCall g f)) := (pe_callB c hg hm hv ha hn hdb he hpl).wk fun _ _ _ q => dCall q
theorem dE_callTy {x : Str} {p pos : Pos} {e : Expr} {es : List Expr} {T : String} {g : List D → Option D} {f : Rho → Option (List D)} {μ : Bool} (c : CallR X (.type T) (rC g)) (hg : Gl X x) (hm : X.mg x = none) (hv : bootBuiltins x = some (.type T)) (ha : PA X (e :: es) (tA μ f))
    (hn : x ≠ "__name__" := by decide) (hdb : (x == ("__debug__" : Str)) = false := by decide) (he : starEach (e :: es) X.env = (false, eval e X.env) :: starEach es X.env := by rfl) (hpl : (backTo pos (starEach es X.env)).any (·.1) = false := by rfl) :
    PE X (.Call (.Name x p) (e :: es) [] pos) (tD μ (eCall g f)) := (pe_callTy c hg hm hv ha hn hdb he hpl).wk fun _ _ _ q => dCall q
/-! isinstance -/
def tyN : D → String
  | .none => "NoneType"
  | .bool _ => "bool"
  | .int _ => "int"
  | .str _ => "str"
  | .list _ => "list"
  | .tuple _ => "tuple"
  | .dict _ => "dict"
def isTy (T : String) (d : D) : Option D := (kitB (tyN d) T).map .bool
theorem Rp.ty {K : PySem.W.Frag} {M : Addr → Prop} {H : Hp} {v : V} {d : D} (r : Rp M H v d) : TyX K H v (.type (tyN d)) := by
  cases r with
  | non => exact .base .non
  | bl b => exact .base (.bl b)
  | int i => exact .base (.int i)
  | str x hx => exact .base (.str x)
  | tup t n l r => obtain ⟨o, e, _⟩ := t; exact .fTuple e
  | lst t n l r => exact .base (.lst t)
  | dic t n => exact .base (.dK t)
  | dct t n => exact .base (.dT t)
theorem dE_isi {p pos : Pos} {e e2 : Expr} {T : String} {f : EF} {μ : Bool} (h : PE X e (tD μ f)) (hT : PE X e2 (tC (.ty T))) (hg : Gl X "isinstance") (hm : X.mg "isinstance" = none) (hv : bootBuiltins "isinstance" = some (.builtin "isinstance"))
    (he : starEach (e :: [e2]) X.env = (false, eval e X.env) :: starEach [e2] X.env := by rfl) (he2 : starEach (e2 :: []) X.env = (false, eval e2 X.env) :: starEach [] X.env := by rfl) (hpl : (backTo pos (starEach [e2] X.env)).any (·.1) = false := by rfl) :
    PE X (.Call (.Name "isinstance" p) [e, e2] [] pos) (tD μ (e1 (isTy T) f)) := (pe_callB call_isi hg hm hv (pa_cons h (pa_cons hT pa_nil he2) he) (by decide) (by decide) he hpl).wk fun σ H Q q => by
  obtain ⟨M0, H0, ρ, d, R, e, q⟩ := q
  obtain ⟨d1, e1, e⟩ := some_bind e
  obtain ⟨b, eb, rfl⟩ := some_map e
  exact ⟨M0, H0, ρ, d1, R, e1, fun v H1 s1 r1 => ⟨v, .ty T, .type (tyN d1), .type T, b, rfl, .ty T, r1.ty, kit_ty eb, q _ _ s1 (.bl _)⟩⟩
/-! signs of a text, one by one -/
def strL (z : Str) : List D := z.cps.toList.map fun c => .str ⟨#[c]⟩
def itStr (f : EF) : Rho → Option (List D) := fun ρ => (f ρ).bind fun d => match d with
  | .str z => some (strL z)
  | _ => none
theorem dI_str {tg e : Expr} {f : EF} {μ : Bool} (h : PE X e (tD μ f)) : PI X tg e (iD μ false (itStr f)) := (pi_str h).wk fun σ H R q => by
  obtain ⟨M0, H0, ρ, items, Rr, e, q⟩ := q
  obtain ⟨d, ed, e⟩ := some_bind e
  refine ⟨M0, H0, ρ, d, Rr, ed, fun v H1 s1 r1 => ?_⟩
  cases r1 <;> try (cases e; done)
  rename_i z l
  cases e
  have hl : (strL z).length = z.cps.size := by unfold strL; rw [List.length_map, Array.length_toList]
  refine ⟨z, rfl, q _ _ s1 fun M' hM => ⟨⟨_, _, by rw [hl]; exact walk_str, fun _ _ => trivial, fun i v Ha Hb k y => ?_⟩, by rw [hl]; exact l⟩⟩
  obtain ⟨rfl, c, ec, rfl⟩ := y
  refine ⟨.str ⟨#[c]⟩, ?_, Same.refl _, .inl (.str _ (show 1 ≤ sizeLine by decide))⟩
  unfold strL
  rw [List.getElem?_map, Array.getElem?_toList, ec]
  rfl
/-! tuple(range(n)), t * n -/
def tTupRg (te : L2.St → Hp → (Int → Int → Hp → Prop) → Prop) : TE := fun σ H Q => te σ H fun a b H1 => RgOk a b ∧ ∀ p H', H1 p = none → Same H1 H' → TupF H' p (rgV a b) → Q (.ref p) H'
theorem pe_tupRg {e : Expr} {te : L2.St → Hp → (Int → Int → Hp → Prop) → Prop} {p pos : Pos} (hc : X.calm = true) (hg : Gl X "tuple") (hm : X.mg "tuple" = none) (he : PRg X e te) (na : starEach [e] X.env = (false, eval e X.env) :: starEach [] X.env := by rfl) :
    PE X (.Call (.Name "tuple" p) [e] [] pos) (tTupRg te) := ⟨fun pn s σ H Q I h => Call_ (ld_blt I hg hm boot_tuple (callWith_type1 (args_cons (thn (he pn s σ H _ I h) fun x s1 ⟨r, a, b, t, u, v, H1, ex, hr, I1, ok, q⟩ => args_nil (by
    subst ex
    obtain ⟨b1, b2, b3, b4, b5⟩ := ok
    refine call_tuple_range (I1.ok.hd hc) hr (small_one b1 b2 b3 b4) (rangeSize_nat a b) b5 fun h' tk acc hk hi => ?_
    have J : L2.Inv X pn σ H1 { s1 with heap := h', toks := tk } := I1.kept (t' := tk) hk
    have J2 := Inv.tupF J (vals_rg hi) (by rw [rgV_length]; exact Nat.le_trans b5 (by decide))
    have fr := J.hok.fresh (Nat.le_refl h'.objs.size)
    rw [Array.toArray_toList] at J2
    exact ⟨.ref h'.objs.size, _, J2, rfl, q _ _ fr (smN fr) ⟨_, upd_same, rfl⟩⟩)) na) na) (by decide) (by decide)) rfl⟩
def eTupRg (f : EF) : EF := fun ρ => (f ρ).bind fun d => match d with
  | .int n => if -(2 ^ 62) ≤ n ∧ n < 2 ^ 20 then some (.tuple (rgD 0 n.toNat)) else none
  | _ => none
theorem rgV_rp {M : Addr → Prop} {H : Hp} (n : Int) : RpAll M H (rgV 0 n) (rgD 0 n.toNat) := by
  unfold rgV rgD
  rw [Int.sub_zero]
  induction (List.range n.toNat) with
  | nil => exact .nil
  | cons i r ih => exact .cons (.int _) ih
theorem dE_tupRg {e : Expr} {p pos p2 pos2 : Pos} {f : EF} {μ : Bool} (hc : X.calm = true) (hg : Gl X "tuple") (hm : X.mg "tuple" = none) (hg2 : Gl X "range") (hm2 : X.mg "range" = none) (h : PE X e (tD μ f)) (na : starEach [(Expr.Call (.Name "range" p2) [e] [] pos2)] X.env = (false, eval (Expr.Call (.Name "range" p2) [e] [] pos2) X.env) :: starEach [] X.env := by rfl) (nb : starEach [e] X.env = [(false, eval e X.env)] := by rfl) :
    PE X (.Call (.Name "tuple" p) [.Call (.Name "range" p2) [e] [] pos2] [] pos) (tD μ (eTupRg f)) := (pe_tupRg hc hg hm (prg_1 hg2 hm2 h nb) na).wk fun σ H Q q => by
  obtain ⟨M0, H0, ρ, d, R, e, q⟩ := q
  obtain ⟨d1, e1, e⟩ := some_bind e
  refine ⟨M0, H0, ρ, d1, R, e1, fun v H1 s1 r1 => ?_⟩
  cases r1 <;> try (cases e; done)
  rename_i n
  obtain ⟨l, rfl⟩ := iteS e
  refine ⟨n, rfl, ⟨by decide, by decide, l.1, by omega, by omega⟩, fun a H2 np s2 t => q _ _ (s1.trans s2) (.tup t (((R.mono s1).domu μ).not np) (by rw [rgV_length]; exact szR (by omega)) (rgV_rp n))⟩
/-- t * k -/
def rRepF : R2 := fun x y H Q => ∃ l k xs, x = .ref l ∧ y = .int k ∧ TupF H l xs ∧ xs ≠ [] ∧ 1 ≤ k ∧ k ≤ 1000 ∧ xs.length ≤ 1000 ∧ ∀ p H', (H p = none ∨ p = l) → Same H H' → TupF H' p (List.replicate k.toNat xs).flatten → Q (.ref p) H'
theorem arr_fold {α : Type} : ∀ (l : List (Array α)) (b : Array α), (l.foldl (fun x1 x2 => x1 ++ x2) b).toList = b.toList ++ (l.map Array.toList).flatten
  | [], b => by simp
  | a :: l, b => by
    rw [List.foldl_cons, arr_fold l, Array.toList_append, List.map_cons, List.flatten_cons, List.append_assoc]
theorem vals_rep {xs : List V} {us : List Value} (r : Vals xs us) : ∀ n : Nat, Vals (List.replicate n xs).flatten (List.replicate n us).flatten
  | 0 => .nil
  | n + 1 => by
    rw [List.replicate_succ, List.replicate_succ, List.flatten_cons, List.flatten_cons]
    exact r.append (vals_rep r n)
theorem rep_len {α : Type} {xs : List α} (n : Nat) : (List.replicate n xs).flatten.length = n * xs.length := by
  rw [List.length_flatten, List.map_replicate, List.sum_replicate_nat]
theorem op_repF : OpR X (binaryOp .Mult) rRepF := by
  intro pins s σ H x y v u Q I rx ry h
  obtain ⟨l, k, xs, rfl, rfl, hT, hne, h1, h2, hz, q⟩ := h
  cases rx
  obtain ⟨t, rfl⟩ := ry
  obtain ⟨its, r, ⟨⟨cls, dd, data, sl⟩, ho, hc, n, hd⟩, hs⟩ := I.tuple (hT.sq (K := X.K))
  simp only at hc hd
  subst hc hd
  by_cases e : k = 1
  · subst e
    refine wpAny_binaryOp_repeat_ref (T := "tuple") (U := "int") (by decide) ⟨_, ho, rfl⟩ (fun s' => typeIs_int s' 1 t) noFill_tuple_mul F.fills_int_mul F.slot_int_rmul repeat_tuple F.slot_int_index.lookup
      (call_meets F.slot_int_rmul (typeIs_int s 1 t) F.entry_int_rmul (F.args_int_rmul_2 _ _) (int_rmul_tuple 1 t l its.toArray n dd sl)
        ⟨ho, rfl, ⟨_, ho, rfl⟩, call_meets F.slot_tuple_mul ⟨_, ho, rfl⟩ F.entry_tuple_mul (F.args_tuple_mul_2 _ _) (tuple_mul1 l its.toArray n dd sl t (by simp)) ⟨ho, ?_⟩⟩)
    refine ⟨.ref l, H, I, rfl, q l H (.inr rfl) (Same.refl H) ?_⟩
    simpa using hT
  · have hl := r.length
    have n0 : 0 < its.length := by
      rw [← hl]
      exact List.length_pos_iff.mpr hne
    have ie : its.toArray.isEmpty = false := by
      cases its with
      | nil => exact absurd n0 (by decide)
      | cons a b => rfl
    have fl : (List.foldl (fun x1 x2 => x1 ++ x2) #[] (List.replicate k.toNat its.toArray)).toList = (List.replicate k.toNat its).flatten := by
      rw [arr_fold, List.map_replicate]
      simp
    have sz2 : (List.replicate k.toNat its).flatten.length ≤ sizeLine := by
      rw [rep_len]
      have h3 : k.toNat * its.length ≤ 1000 * 1000 := Nat.mul_le_mul (by omega) (by omega)
      exact Nat.le_trans h3 (by decide)
    have hb : (its.length : Int) * k ≤ 1000 * 1000 := Int.mul_le_mul (by omega) h2 (by omega) (by decide)
    have hb0 : 0 ≤ (its.length : Int) * k := Int.mul_nonneg (by omega) (by omega)
    refine wpAny_binaryOp_repeat_ref (T := "tuple") (U := "int") (by decide) ⟨_, ho, rfl⟩ (fun s' => typeIs_int s' k t) noFill_tuple_mul F.fills_int_mul F.slot_int_rmul repeat_tuple F.slot_int_index.lookup
      (call_meets F.slot_int_rmul (typeIs_int s k t) F.entry_int_rmul (F.args_int_rmul_2 _ _) (int_rmul_tuple k t l its.toArray n dd sl)
        ⟨ho, rfl, ⟨_, ho, rfl⟩, call_meets F.slot_tuple_mul ⟨_, ho, rfl⟩ F.entry_tuple_mul (F.args_tuple_mul_2 _ _) (tuple_mulW l its.toArray n dd sl k t (by simp; omega) (by rw [ie]; simpa using e) (by rw [ie]; simp; omega) ?_ ?_ ?_) ⟨ho, ?_⟩⟩)
    · rw [List.size_toArray]
      have : ((2 : Int) ^ 63 - 1) / 8 = 1152921504606846975 := by decide
      omega
    · rw [List.size_toArray]
      unfold Builtin.Tuple.tupleTooMany
      refine decide_eq_false ?_
      have : ((sizeLine : Nat) : Int) = 16777216 := by decide
      omega
    · rw [← Array.length_toList, fl]; exact sz2
    · have fr := I.hok.fresh (Nat.le_refl s.heap.objs.size)
      have J := Inv.tupF I (vals_rep r k.toNat) (by rw [rep_len, hl, ← rep_len]; exact sz2)
      rw [← fl, Array.toArray_toList] at J
      exact ⟨.ref s.heap.objs.size, _, J, rfl, q _ _ (.inl fr) (smN fr) ⟨_, upd_same, rfl⟩⟩
theorem RpAll.rep {M : Addr → Prop} {H : Hp} {vs : List V} {ds : List D} (h : RpAll M H vs ds) : ∀ n : Nat, RpAll M H (List.replicate n vs).flatten (List.replicate n ds).flatten
  | 0 => .nil
  | n + 1 => by
    rw [List.replicate_succ, List.replicate_succ, List.flatten_cons, List.flatten_cons]
    exact h.app (h.rep n)
def repS (z : Str) (n : Nat) : Str := ⟨(List.replicate n z.cps.toList).flatten.toArray⟩
def mulX : D → D → Option D
  | .int i, .int j => mulD (.int i) (.int j)
  | .tuple ds, .int k => if ds ≠ [] ∧ 1 ≤ k ∧ k ≤ 1000 ∧ ds.length ≤ 1000 then some (.tuple (List.replicate k.toNat ds).flatten) else none
  | .list ds, .int k => if 0 ≤ k ∧ k ≤ 1000 ∧ ds.length ≤ 1000 then some (.list (List.replicate k.toNat ds).flatten) else none
  | .str z, .int n => if 1 ≤ n ∧ n ≤ 100 ∧ 0 < z.length ∧ z.length ≤ 100 then some (.str (repS z n.toNat)) else none
  | _, _ => none
theorem o_mulX : OpR X (binaryOp .Mult) (rD mulX) := by
  intro pn s σ H x y v u Q I rx ry h
  obtain ⟨M, a, b, d, dm, ra, rb, e, q⟩ := h
  cases ra <;> cases rb <;> try (cases e; done)
  · exact o_mul pn s σ H _ _ v u Q I rx ry ⟨M, _, _, d, dm, .int _, .int _, e, q⟩
  · rename_i z hz n
    obtain ⟨l, rfl⟩ := iteS e
    refine op_repS pn s σ H _ _ v u Q I rx ry ⟨_, _, rfl, rfl, l.1, l.2.1, l.2.2.1, l.2.2.2, fun r hr _ => ?_⟩
    have : r = repS z n.toNat := by
      cases r with
      | mk a =>
        unfold repS
        congr
        rw [← Array.toArray_toList (xs := a), ← hr]
    rw [this]
    refine q _ _ (Same.refl _) (.str _ ?_)
    unfold repS
    show (List.toArray _).size ≤ _
    rw [List.size_toArray, rep_len, Array.length_toList]
    exact Nat.le_trans (Nat.mul_le_mul (show n.toNat ≤ 100 by omega) l.2.2.2) (by decide)
  · rename_i t n l r k
    obtain ⟨l2, rfl⟩ := iteS e
    have hl := r.len
    refine op_repF pn s σ H _ _ v u Q I rx ry ⟨_, _, _, rfl, rfl, t, fun z => l2.1 ?_, l2.2.1, l2.2.2.1, by rw [hl]; exact l2.2.2.2, fun p H' hp sm t' => q _ _ sm (.tup t' (fun m => ?_) ?_ ((r.mono (.of sm)).rep _))⟩
    · subst z; cases r; rfl
    · rcases hp with hp | hp
      · exact dm p m hp
      · rw [hp] at m; exact n m
    · rw [rep_len, hl]
      exact Nat.le_trans (Nat.mul_le_mul (show k.toNat ≤ 1000 by omega) l2.2.2.2) (by decide)
  · rename_i t n l r k
    obtain ⟨l2, rfl⟩ := iteS e
    have hl := r.len
    have hm : (List.length ‹List V›) * k.toNat ≤ sizeLine := by
      rw [hl]
      exact Nat.le_trans (Nat.mul_le_mul l2.2.2 (show k.toNat ≤ 1000 by omega)) (by decide)
    exact op_rep pn s σ H _ _ v u Q I rx ry ⟨_, _, _, rfl, rfl, t, by omega, by omega, hm, fun p hp => q _ _ (smN hp) (.lst upd_same (dm.not hp) (by rw [rep_len, Nat.mul_comm]; exact hm) ((r.mono (.of (smN hp))).rep _))⟩
end
end Dl
namespace Dl
open PySem PySem.Spec PyProof.Rows L2 Rt
theorem u65 {k : Nat} {A : Around} (r : Room k A) : A.units + 65 < cLine := by
  have := r.un
  omega
section
variable {X : Cx} {K : PySem.W.Frag}
theorem dE_lc {e : Expr} {it : Rho → Option (List D)} {p : Pat} {c : Rho → Option Bool} {f : EF} {vs : List Nat} {μ μi pr : Bool} (h : PE X e (tLc (iD μ pr it) (gP K p) (tT c) (tD μi f) vs)) (hp : p.fits pr = true := by rfl) (hs : ∀ j, j ∈ slP p → j ∈ vs := by decide) : PE X e (tD μ (eLc μ vs it p c f)) := h.wk fun _ _ _ q => dLc hp hs q
theorem dS_lc {st : Stmt} {i : Nat} {it : Rho → Option (List D)} {p : Pat} {c : Rho → Option Bool} {f : EF} {vs : List Nat} {μi pr : Bool} (h : PS X st (tAsg (tLc (iD true pr it) (gP K p) (tT c) (tD μi f) vs) (gName i))) (hp : p.fits pr = true := by rfl) (hs : ∀ j, j ∈ slP p → j ∈ vs := by decide) : PS X st (tS (sAsg (.nm i) (eLc true vs it p c f))) :=
  dS_asg (K := K) (h.wk fun Dn σ H q => dLc hp hs q)
theorem oS_lc {st : Stmt} {i : Nat} {it : Rho → Option (List D)} {p : Pat} {c : Rho → Option Bool} {f : EF} {vs : List Nat} {μi pr : Bool} (h : PS X st (tAsg (tLc (iD true pr it) (gP K p) (tT c) (tD μi f) vs) (gName i))) (hp : p.fits pr = true := by rfl) (hs : ∀ j, j ∈ slP p → j ∈ vs := by decide) : PS X st (tS (sOwn i (eLc true vs it p c f))) :=
  dS_own (h.wk fun Dn σ H q => nLc hp hs q)
theorem nE_lc {e : Expr} {it : WP (List D)} {p : Pat} {c : WP Bool} {f : WP D} {vs : List Nat} {pr : Bool} (h : PE X e (tLc (inn pr it) (gP K p) (tnT c) (tn f) vs)) (hp : p.fits pr = true := by rfl) (hs : ∀ j, j ∈ slP p → j ∈ vs := by decide) : PE X e (tn (wLc vs it p c f)) := h.wk fun _ _ _ q => nLcE hp hs q
theorem nS_lc {st : Stmt} {i : Nat} {it : WP (List D)} {p : Pat} {c : WP Bool} {f : WP D} {vs : List Nat} {pr : Bool} (h : PS X st (tAsg (tLc (inn pr it) (gP K p) (tnT c) (tn f) vs) (gName i))) (hp : p.fits pr = true := by rfl) (hs : ∀ j, j ∈ slP p → j ∈ vs := by decide) : PS X st (tSn (swAsg (.nm i) (wLc vs it p c f))) :=
  nS_asg (K := K) (h.wk fun Dn σ H q => nLcE hp hs q)
theorem nO_lc {st : Stmt} {i : Nat} {it : WP (List D)} {p : Pat} {c : WP Bool} {f : WP D} {vs : List Nat} {pr : Bool} (h : PS X st (tAsg (tLc (inn pr it) (gP K p) (tnT c) (tn f) vs) (gName i))) (hp : p.fits pr = true := by rfl) (hs : ∀ j, j ∈ slP p → j ∈ vs := by decide) : PS X st (tSn (swOwn i (wLc vs it p c f))) :=
  nS_own (h.wk fun Dn σ H q => nLcN hp hs q)
theorem nE_callB {x : Str} {p pos : Pos} {e : Expr} {es : List Expr} {id : String} {g : List D → Option D} {f : WP (List D)} (c : CallR X (.builtin id) (rC g)) (hg : Gl X x) (hm : X.mg x = none) (hv : bootBuiltins x = some (.builtin id)) (ha : PA X (e :: es) (tnA f))
    (hn : x ≠ "__name__" := by decide) (hdb : (x == ("__debug__" : Str)) = false := by decide) (he : starEach (e :: es) X.env = (false, eval e X.env) :: starEach es X.env := by rfl) (hpl : (backTo pos (starEach es X.env)).any (·.1) = false := by rfl) :
    PE X (.Call (.Name x p) (e :: es) [] pos) (tn (wB f g)) := (pe_callB c hg hm hv ha hn hdb he hpl).wk fun _ _ _ q => nCall q
theorem nE_callTy {x : Str} {p pos : Pos} {e : Expr} {es : List Expr} {T : String} {g : List D → Option D} {f : WP (List D)} (c : CallR X (.type T) (rC g)) (hg : Gl X x) (hm : X.mg x = none) (hv : bootBuiltins x = some (.type T)) (ha : PA X (e :: es) (tnA f))
    (hn : x ≠ "__name__" := by decide) (hdb : (x == ("__debug__" : Str)) = false := by decide) (he : starEach (e :: es) X.env = (false, eval e X.env) :: starEach es X.env := by rfl) (hpl : (backTo pos (starEach es X.env)).any (·.1) = false := by rfl) :
    PE X (.Call (.Name x p) (e :: es) [] pos) (tn (wB f g)) := (pe_callTy c hg hm hv ha hn hdb he hpl).wk fun _ _ _ q => nCall q
/-- x = x + e, both lists, x one's own -/
def eCat (i : Nat) (f : EF) : EF := fun ρ => match ρ[i]? with
  | some (some (.own ds)) => (f ρ).bind fun d => match d with
    | .list es => if ds.length + es.length ≤ sizeLine then some (.list (ds ++ es)) else none
    | _ => none
  | _ => none
theorem oE_cat {a b : Expr} {pos : Pos} {i : Nat} {f : EF} (ha : PE X a (tVar i)) (hb : PE X b (tD true f)) : PE X (.BinOp a .Add b pos) (tN (eCat i f)) := (pe_op op_cat ha hb).wk fun σ H Q q => by
  obtain ⟨M0, H0, ρ, es, R, e, q⟩ := q
  unfold eCat at e
  split at e
  · rename_i ds z
    obtain ⟨d, ed, e⟩ := some_bind e
    obtain ⟨p, vs, a, b, c, l, r⟩ := R.own i ds z
    refine ⟨.ref p, a, M0, H0, ρ, d, R, ed, fun v H1 s1 r1 => ?_⟩
    cases r1 <;> try (cases e; done)
    rename_i t n l1 r1
    obtain ⟨l2, e3⟩ := iteS e
    cases e3
    refine ⟨_, _, _, _, rfl, rfl, s1 _ _ b, t, by rw [r.len, r1.len]; exact l2, fun p2 hp2 => q p2 _ _ ?_ (s1.trans (smN hp2)) upd_same (by rw [List.length_append, r.len, r1.len]; exact l2) ?_⟩
    · cases z : H p2 with
      | none => rfl
      | some o => rw [s1 _ _ z] at hp2; cases hp2
    · have k : ∀ a, Mi true M0 σ ρ p2 a → Mu true M0 σ ρ a ∨ ‹Hp› a = none := fun a m => by
        rcases m with m | rfl
        · exact .inl m
        · exact .inr hp2
      exact (((r.mono (.of s1)).reM k).mono (.of (smN hp2))).app ((r1.reM k).mono (.of (smN hp2)))
  · cases e
def wCat (i : Nat) (f : WP D) : WP D := ⟨fun ρ b Q => ∃ ds, ρ[i]? = some (some (.own ds)) ∧ f.w ρ b fun d b' => ∃ es, d = .list es ∧ ds.length + es.length ≤ sizeLine ∧ Q (.list (ds ++ es)) b', fun h ⟨ds, e, z⟩ => ⟨ds, e, f.m (fun d b' ⟨es, e1, l, y⟩ => ⟨es, e1, l, h _ _ y⟩) z⟩⟩
theorem nO_cat {a b : Expr} {pos : Pos} {i : Nat} {f : WP D} (ha : PE X a (tVar i)) (hb : PE X b (tn f)) : PE X (.BinOp a .Add b pos) (tnN (wCat i f)) := (pe_op op_cat ha hb).wk fun σ H Q q => by
  obtain ⟨g, M0, H0, ρ, b, R, ds, z, q⟩ := q
  obtain ⟨p, vs, a, c, h0, l, r⟩ := R.own i ds z
  refine ⟨.ref p, a, g, M0, H0, ρ, b, R, f.m (fun d b1 ⟨es, e1, l2, q⟩ v H1 k1 i1 r1 => ?_) q⟩
  obtain ⟨es', e3, q⟩ := q
  cases e3
  subst e1
  cases r1 with
  | lst t n l1 r1 =>
    have c1 := k1 _ _ (fun o => R.dom0 p (R.pl p o) h0) c
    refine ⟨_, _, _, _, rfl, rfl, c1, t, by rw [r.len, r1.len]; exact l2, fun p2 hp2 => q p2 _ _ ?_ (k1.tr (.of (smN hp2))) (Pl.same i1 (smN hp2)) upd_same (by rw [List.length_append, r.len, r1.len]; exact l2) ?_⟩
    · cases z : H p2 with
      | none => rfl
      | some o =>
        by_cases ow : g.own p2
        · exact (g.alive i1 ow hp2).elim
        · rw [k1 _ _ ow z] at hp2; cases hp2
    · have k : ∀ a, Mi true M0 σ ρ p2 a → Mu true M0 σ ρ a ∨ H1 a = none := fun a m => by
        rcases m with m | rfl
        · exact .inl m
        · exact .inr hp2
      exact (((r.mono fun p o n e => k1 p o (fun z => n (.inl (R.pl p z))) e).reM k).mono (.of (smN hp2))).app ((r1.reM k).mono (.of (smN hp2)))
def sPar (i j : Nat) (f : Rho → Option (List D)) : Rho → Option Out := fun ρ => (f ρ).bind fun ds => match ds with
  | [a, b] => some (.nx ((ρ.set i (some (.dat a))).set j (some (.dat b))))
  | _ => none
theorem dS_par {st : Stmt} {i j : Nat} {f : Rho → Option (List D)} (h : PS X st (tPar i j (tA true f))) : PS X st (tS (sPar i j f)) := h.wk fun Dn σ H q => by
  obtain ⟨M0, H0, ρ, o, R, e, q⟩ := tS_iff.mp q
  obtain ⟨ds, ed, e⟩ := some_bind e
  refine ⟨M0, H0, ρ, ds, R, ed, fun vs H1 s1 r1 => ?_⟩
  match ds, vs, r1, e with
  | [a, b], [v, w], .cons ra (.cons rb .nil), e =>
    cases e
    have sh : ∀ a', Mu true M0 (σ.set i (some v)) (ρ.set i (some (.dat a))) a' → Mu true M0 σ ρ a' := Mu.shrink fun ds e => by cases e
    have R1 := (R.mono s1).set (i := i) ra
    have R2 := R1.set (i := j) (rb.reM fun a m => .inl (sh a m))
    refine ⟨v, w, rfl, q _ _ R2 ((Stp.of s1).trans ⟨.refl, fun p m => .inl (sh p (Mu.shrink (fun ds e => by cases e) p m))⟩)⟩
def swPar (i j : Nat) (f : WP (List D)) : WP Out := ⟨fun ρ b Q => f.w ρ b fun ds b' => ∃ x y, ds = [x, y] ∧ Q (.nx ((ρ.set i (some (.dat x))).set j (some (.dat y)))) b', fun h z => f.m (fun ds b' ⟨x, y, e, w⟩ => ⟨x, y, e, h _ _ w⟩) z⟩
theorem nS_par {st : Stmt} {i j : Nat} {f : WP (List D)} (h : PS X st (tPar i j (tnA f))) : PS X st (tSn (swPar i j f)) := h.wk fun Dn σ H q => by
  obtain ⟨g, M0, H0, ρ, b, R, q⟩ := q
  refine ⟨g, M0, H0, ρ, b, R, f.m (fun ds b1 ⟨x, y, e, q⟩ vs H1 k1 i1 r1 => ?_) q⟩
  subst e
  match vs, r1 with
  | [v, w], .cons ra (.cons rb .nil) =>
    have sh : ∀ a', Mu true M0 (σ.set i (some v)) (ρ.set i (some (.dat x))) a' → Mu true M0 σ ρ a' := Mu.shrink fun ds e => by cases e
    have R1 := (R.up k1 i1).set (i := i) ra
    have R2 := R1.set (i := j) (rb.reM fun a m => .inl (sh a m))
    refine ⟨v, w, rfl, q _ _ R2 ((R.stp k1).trans ⟨.refl, fun p m => .inl (sh p (Mu.shrink (fun ds e => by cases e) p m))⟩)⟩
/-- a def of a pool's family in the layer's words -/
theorem _root_.L2.FnOk.wk {P : Program} {w : World} {mg : Str → Option Value} {base : Heap} {k : Nat} {f : Addr} {fd : FuncData} {ps : List Str} {sp sp' : Sp} (F : FnOk P w K mg base CX0 k f fd ps sp) (m : ∀ vs H Q E, sp' vs H Q E → sp vs H Q E) : FnOk P w K mg base CX0 k f fd ps sp' :=
  ⟨fun vs H Q E h => F.len vs H Q E (m _ _ _ _ h), fun A outer s H args us vs Q E room e b v h => F.run A outer s H args us vs Q E room e b v (m _ _ _ _ h)⟩
end
end Dl
namespace Dl
open PySem PySem.Spec PyProof.Rows L2 Rt
theorem sub_dict_str : isSubtype (.type "dict") (.type "str") = pure false := by
  rw [isSubtype_type]
  rfl
theorem sub_str_dict : isSubtype (.type "str") (.type "dict") = pure false := by
  rw [isSubtype_type]
  rfl
theorem str_eq_no_dict (b : Str) (u : Tok) (l : Addr) (o : Obj) (es : Array DictEntry) (n : Nat) (hc : o.cls = .type "dict") (hd : o.data = .dict es n) : Meets (Builtin.«str.__eq__» { pos := [.str b u, .ref l] }) fun _ R s => s.heap.get? l = some o ∧ R (.ok (.ret .notImplemented)) s :=
  Meets.of_wp fun prog w A R s h => by
    obtain ⟨hp, g, d, tk, os⟩ := s
    obtain ⟨hl, h⟩ := h
    obtain ⟨cls, dd, dat, sl⟩ := o
    cases hc
    cases hd
    unfold Builtin.«str.__eq__»
    refine wpAny_bind (wpAny_bind ?_)
    unfold slotArgs
    refine wpAny_ite_false rfl (wpAny_ite_false rfl (wpAny_pure (wpAny_bind ?_)))
    unfold Builtin.Str.textOf
    refine wpAny_bind (wpAny_pure (wpAny_pure (wpAny_pure (wpAny_bind ?_))))
    unfold asStr?
    refine wpAny_bind (wpAny_load hl (wpAny_pure (wpAny_bind (wpAny_rule (wpAny_pure ⟨_, rfl, h⟩)))))
theorem dict_eq_no_str (b : Str) (u : Tok) (l : Addr) (o : Obj) (es : Array DictEntry) (n : Nat) (hc : o.cls = .type "dict") (hd : o.data = .dict es n) : Meets (Builtin.«dict.__eq__» { pos := [.ref l, .str b u] }) fun _ R s => s.heap.get? l = some o ∧ R (.ok (.ret .notImplemented)) s :=
  Meets.of_wp fun prog w A R s h => by
    obtain ⟨hp, g, d, tk, os⟩ := s
    obtain ⟨hl, h⟩ := h
    obtain ⟨cls, dd, dat, sl⟩ := o
    cases hc
    cases hd
    unfold Builtin.«dict.__eq__»
    refine wpAny_bind ?_
    unfold Builtin.Dict.dictSlotArgs
    refine wpAny_bind ?_
    unfold Builtin.Dict.notOrdered
    refine wpAny_ite_false rfl (wpAny_pure (wpAny_bind ?_))
    unfold slotArgs
    refine wpAny_ite_false rfl (wpAny_ite_false rfl (wpAny_pure (wpAny_pure (wpAny_bind ?_))))
    unfold isInstance
    refine wpAny_bind (wpAny_pure (wpAny_of_eq sub_str_dict (wpAny_ite_true rfl (wpAny_bind (wpAny_rule (wpAny_pure ⟨_, rfl, h⟩))))))
theorem rc_str_dict {A : Around} {s : Shared} {l : Addr} {o : Obj} {es : Array DictEntry} {n : Nat} (b : Str) (u : Tok) (ho : s.heap.get? l = some o) (hc : o.cls = .type "dict") (hd : o.data = .dict es n) (hu : A.units < cLine) : SeqAt.RcAt A s (.str b u) (.ref l) false := fun prog w E Q h =>
  SeqAt.rc_eq_decline_or (typeIs_str s b u) ⟨o, ho, hc⟩ (by decide) sub_dict_str F.slot_str_eq F.slot_dict_eq_refl
    (fun _ hq => call_meets F.slot_str_eq (typeIs_str s b u) F.entry_str_eq (F.args_str_eq_2 _ _) (str_eq_no_dict b u l o es n hc hd) ⟨ho, hq⟩)
    (fun _ hq => call_meets F.slot_dict_eq_refl ⟨o, ho, hc⟩ F.entry_dict_eq (F.args_dict_eq_2 _ _) (dict_eq_no_str b u l o es n hc hd) ⟨ho, hq⟩)
    (fun _ hq => wpAny_of_eq rfl hq) (.inr hu) h
theorem eqAt_str_dict {A : Around} {s : Shared} {l : Addr} {o : Obj} {es : Array DictEntry} {n : Nat} (b : Str) (u : Tok) (ho : s.heap.get? l = some o) (hc : o.cls = .type "dict") (hd : o.data = .dict es n) (hu : A.units < cLine) : SeqAt.EqAt A s (.str b u) (.ref l) false := fun prog w E Q h =>
  wpAny_holding (wpAny_ite_split (fun e => absurd (eq_of_beq e) (fun a => nomatch a)) fun _ => wpAny_bind (rc_str_dict b u ho hc hd hu prog w E (fun a s' => wpAny (model prog w) A (truthOfDropped a) Q E s') (wpAny_truthy_bool h)))
end Dl
namespace Dl
open PySem PySem.Spec PyProof.Rows L2 Rt
theorem sub_int_dict : isSubtype (.type "int") (.type "dict") = pure false := by rw [isSubtype_type]; rfl
theorem sub_bool_dict : isSubtype (.type "bool") (.type "dict") = pure false := by rw [isSubtype_type]; rfl
theorem sub_none_dict : isSubtype (.type "NoneType") (.type "dict") = pure false := by rw [isSubtype_type]; rfl
theorem sub_list_dict : isSubtype (.type "list") (.type "dict") = pure false := by rw [isSubtype_type]; rfl
theorem sub_tuple_dict : isSubtype (.type "tuple") (.type "dict") = pure false := by rw [isSubtype_type]; rfl
theorem sub_dict_int : isSubtype (.type "dict") (.type "int") = pure false := by rw [isSubtype_type]; rfl
theorem sub_dict_bool : isSubtype (.type "dict") (.type "bool") = pure false := by rw [isSubtype_type]; rfl
theorem sub_dict_none : isSubtype (.type "dict") (.type "NoneType") = pure false := by rw [isSubtype_type]; rfl
theorem sub_dict_list : isSubtype (.type "dict") (.type "list") = pure false := by rw [isSubtype_type]; rfl
theorem sub_dict_tuple : isSubtype (.type "dict") (.type "tuple") = pure false := by rw [isSubtype_type]; rfl
theorem dict_eq_no {x : Value} {T : String} (hT : isSubtype (.type T) (.type "dict") = pure false) (l : Addr) : Meets (Builtin.«dict.__eq__» { pos := [.ref l, x] }) fun _ R s => s.TypeIs x T ∧ R (.ok (.ret .notImplemented)) s :=
  Meets.of_wp fun prog w A R s h => by
    obtain ⟨hl, h⟩ := h
    unfold Builtin.«dict.__eq__»
    refine wpAny_bind ?_
    unfold Builtin.Dict.dictSlotArgs
    refine wpAny_bind ?_
    unfold Builtin.Dict.notOrdered
    refine wpAny_ite_false rfl (wpAny_pure (wpAny_bind ?_))
    unfold slotArgs
    refine wpAny_ite_false rfl (wpAny_ite_false rfl (wpAny_pure (wpAny_pure (wpAny_bind ?_))))
    unfold isInstance
    refine wpAny_bind (wpAny_typeOf hl (wpAny_of_eq hT (wpAny_ite_true rfl (wpAny_bind (wpAny_rule (wpAny_pure ⟨_, rfl, h⟩))))))
theorem list_eq_no (l q : Addr) (o : Obj) (hc : o.cls = .type "dict") : Meets (Builtin.«list.__eq__» { pos := [.ref q, .ref l] }) fun _ R s => s.heap.get? l = some o ∧ R (.ok (.ret .notImplemented)) s :=
  Meets.of_wp fun prog w A R s h => by
    obtain ⟨hl, h⟩ := h
    have hl : s.TypeIs (.ref l) "dict" := ⟨o, hl, hc⟩
    unfold Builtin.«list.__eq__»
    refine wpAny_bind ?_
    unfold slotArgs
    refine wpAny_ite_false rfl (wpAny_ite_false rfl (wpAny_pure (wpAny_bind ?_)))
    unfold isInstance
    exact wpAny_bind (wpAny_typeOf hl (wpAny_of_eq sub_dict_list (wpAny_ite_true rfl (wpAny_pure ⟨_, rfl, h⟩))))
theorem tuple_eq_no (l q : Addr) (o : Obj) (hc : o.cls = .type "dict") : Meets (Builtin.«tuple.__eq__» { pos := [.ref q, .ref l] }) fun _ R s => s.heap.get? l = some o ∧ R (.ok (.ret .notImplemented)) s :=
  Meets.of_wp fun prog w A R s h => by
    obtain ⟨hl, h⟩ := h
    have hl : s.TypeIs (.ref l) "dict" := ⟨o, hl, hc⟩
    unfold Builtin.«tuple.__eq__»
    refine wpAny_bind ?_
    unfold slotArgs
    refine wpAny_ite_false rfl (wpAny_ite_false rfl (wpAny_pure (wpAny_bind ?_)))
    unfold isInstance
    exact wpAny_bind (wpAny_typeOf hl (wpAny_of_eq sub_dict_tuple (wpAny_ite_true rfl (wpAny_pure ⟨_, rfl, h⟩))))
theorem int_eq_no (i : Int) (t : Tok) (l : Addr) (o : Obj) (es : Array DictEntry) (n : Nat) (hd : o.data = .dict es n) : Meets (Builtin.«int.__eq__» { pos := [.int i t, .ref l] }) fun _ R s => s.heap.get? l = some o ∧ R (.ok (.ret .notImplemented)) s :=
  Meets.of_wp fun prog w A R s h => by
    obtain ⟨hp, g, d, tk, os⟩ := s
    obtain ⟨hl, h⟩ := h
    obtain ⟨cls, dd, dat, sl⟩ := o
    cases hd
    unfold Builtin.«int.__eq__»
    refine wpAny_bind ?_
    unfold slotArgs
    refine wpAny_ite_false rfl (wpAny_ite_false rfl (wpAny_pure (wpAny_bind ?_)))
    unfold Builtin.Int.intOfSelf
    refine wpAny_bind (wpAny_pure (wpAny_pure (wpAny_bind ?_)))
    unfold asInt?
    exact wpAny_bind (wpAny_load hl (wpAny_pure (wpAny_bind (wpAny_rule (wpAny_pure ⟨_, rfl, h⟩)))))
theorem bool_eq_no (i : Bool) (l : Addr) (o : Obj) (es : Array DictEntry) (n : Nat) (hd : o.data = .dict es n) : Meets (Builtin.«int.__eq__» { pos := [.bool i, .ref l] }) fun _ R s => s.heap.get? l = some o ∧ R (.ok (.ret .notImplemented)) s :=
  Meets.of_wp fun prog w A R s h => by
    obtain ⟨hp, g, d, tk, os⟩ := s
    obtain ⟨hl, h⟩ := h
    obtain ⟨cls, dd, dat, sl⟩ := o
    cases hd
    unfold Builtin.«int.__eq__»
    refine wpAny_bind ?_
    unfold slotArgs
    refine wpAny_ite_false rfl (wpAny_ite_false rfl (wpAny_pure (wpAny_bind ?_)))
    unfold Builtin.Int.intOfSelf
    refine wpAny_bind (wpAny_pure (wpAny_pure (wpAny_bind ?_)))
    unfold asInt?
    exact wpAny_bind (wpAny_load hl (wpAny_pure (wpAny_bind (wpAny_rule (wpAny_pure ⟨_, rfl, h⟩)))))
end Dl
namespace Dl
open PySem PySem.Spec PyProof.Rows L2 Rt
structure IsDic (s : Shared) (l : Addr) (o : Obj) (es : Array DictEntry) (n : Nat) : Prop where
  get : s.heap.get? l = some o
  cls : o.cls = .type "dict"
  dat : o.data = .dict es n
theorem IsDic.ty {s : Shared} {l : Addr} {o : Obj} {es : Array DictEntry} {n : Nat} (h : IsDic s l o es n) : s.TypeIs (.ref l) "dict" := ⟨o, h.get, h.cls⟩
section
variable {A : Around} {s : Shared} {l : Addr} {o : Obj} {es : Array DictEntry} {n : Nat}
theorem tyL {q : Addr} {items : Array Value} (h : s.heap.IsList q items) : s.TypeIs (.ref q) "list" := by
  obtain ⟨o, g, c, _⟩ := h
  exact ⟨o, g, c⟩
theorem tyT {q : Addr} {items : Array Value} (h : s.heap.IsTuple q items) : s.TypeIs (.ref q) "tuple" := by
  obtain ⟨o, g, c, _⟩ := h
  exact ⟨o, g, c⟩
theorem ne_of_ty {q l : Addr} {T U : String} (h : s.TypeIs (.ref q) T) (k : s.TypeIs (.ref l) U) (n : Value.type T ≠ .type U) : q ≠ l := by
  rintro rfl
  obtain ⟨o, g, c⟩ := h
  obtain ⟨o', g', c'⟩ := k
  rw [g] at g'
  cases g'
  exact n (c.symm.trans c')
theorem isSame_dic {M : Model} {E : Value → Shared → Prop} {q : Addr} {T : String} {Q : Bool → Shared → Prop} (h : IsDic s l o es n) (t : s.TypeIs (.ref q) T) (n' : Value.type T ≠ .type "dict") (hq : Q false s) : wpAny M A (isSame (.ref l) (.ref q)) Q E s := by
  have hne := ne_of_ty h.ty t n'.symm
  obtain ⟨o2, g2, c2⟩ := t
  exact wpAny_isSame_ref_other hne h.get g2 (by rw [h.cls]; decide) hq
theorem dic_isSame {M : Model} {E : Value → Shared → Prop} {q : Addr} {T : String} {Q : Bool → Shared → Prop} (h : IsDic s l o es n) (t : s.TypeIs (.ref q) T) (n' : Value.type T ≠ .type "dict") (hq : Q false s) : wpAny M A (isSame (.ref q) (.ref l)) Q E s := by
  have hne := ne_of_ty t h.ty n'
  obtain ⟨o2, g2, c2⟩ := t
  obtain ⟨g1, c1, d1⟩ := h
  obtain ⟨cls, dd, dat, sl⟩ := o
  cases c1
  cases d1
  obtain ⟨cls, dd, dat, sl⟩ := o2
  cases c2
  unfold isSame
  refine wpAny_ite_false (decide_eq_false fun e => hne (eq_of_beq e)) (wpAny_bind (wpAny_load g2 (wpAny_bind (wpAny_load g1 ?_))))
  split
  · rename_i e _ _
    exact absurd (show Value.type "dict" = Value.type "tuple" from e) (by decide)
  · exact wpAny_pure hq
theorem rc_int_dic (i : Int) (t : Tok) (h : IsDic s l o es n) (hu : A.units < cLine) : SeqAt.RcAt A s (.int i t) (.ref l) false := fun prog w E Q hQ =>
  SeqAt.rc_eq_decline_or (typeIs_int s i t) h.ty (by decide) sub_dict_int F.slot_int_eq F.slot_dict_eq_refl
    (fun _ hq => call_meets F.slot_int_eq (typeIs_int s i t) F.entry_int_eq (F.args_int_eq_2 _ _) (int_eq_no i t l o es n h.dat) ⟨h.get, hq⟩)
    (fun _ hq => call_meets F.slot_dict_eq_refl h.ty F.entry_dict_eq (F.args_dict_eq_2 _ _) (dict_eq_no sub_int_dict l) ⟨(typeIs_int s i t), hq⟩)
    (fun _ hq => wpAny_of_eq rfl hq) (.inr hu) hQ
theorem rc_dic_int (i : Int) (t : Tok) (h : IsDic s l o es n) (hu : A.units < cLine) : SeqAt.RcAt A s (.ref l) (.int i t) false := fun prog w E Q hQ =>
  SeqAt.rc_eq_decline_or h.ty (typeIs_int s i t) (by decide) sub_int_dict F.slot_dict_eq F.slot_int_eq_refl
    (fun _ hq => call_meets F.slot_dict_eq h.ty F.entry_dict_eq (F.args_dict_eq_2 _ _) (dict_eq_no sub_int_dict l) ⟨(typeIs_int s i t), hq⟩)
    (fun _ hq => call_meets F.slot_int_eq_refl (typeIs_int s i t) F.entry_int_eq (F.args_int_eq_2 _ _) (int_eq_no i t l o es n h.dat) ⟨h.get, hq⟩)
    (fun _ hq => wpAny_of_eq rfl hq) (.inr hu) hQ
theorem rc_bool_dic (i : Bool) (h : IsDic s l o es n) (hu : A.units < cLine) : SeqAt.RcAt A s (.bool i) (.ref l) false := fun prog w E Q hQ =>
  SeqAt.rc_eq_decline_or rfl h.ty (by decide) sub_dict_bool F.slot_bool_eq F.slot_dict_eq_refl
    (fun _ hq => call_meets F.slot_bool_eq rfl F.entry_int_eq (F.args_int_eq_2 _ _) (bool_eq_no i l o es n h.dat) ⟨h.get, hq⟩)
    (fun _ hq => call_meets F.slot_dict_eq_refl h.ty F.entry_dict_eq (F.args_dict_eq_2 _ _) (dict_eq_no sub_bool_dict l) ⟨rfl, hq⟩)
    (fun _ hq => wpAny_of_eq rfl hq) (.inr hu) hQ
theorem rc_dic_bool (i : Bool) (h : IsDic s l o es n) (hu : A.units < cLine) : SeqAt.RcAt A s (.ref l) (.bool i) false := fun prog w E Q hQ =>
  SeqAt.rc_eq_decline_or h.ty rfl (by decide) sub_bool_dict F.slot_dict_eq F.slot_bool_eq_refl
    (fun _ hq => call_meets F.slot_dict_eq h.ty F.entry_dict_eq (F.args_dict_eq_2 _ _) (dict_eq_no sub_bool_dict l) ⟨rfl, hq⟩)
    (fun _ hq => call_meets F.slot_bool_eq_refl rfl F.entry_int_eq (F.args_int_eq_2 _ _) (bool_eq_no i l o es n h.dat) ⟨h.get, hq⟩)
    (fun _ hq => wpAny_of_eq rfl hq) (.inr hu) hQ
theorem rc_str_dic (i : Str) (t : Tok) (h : IsDic s l o es n) (hu : A.units < cLine) : SeqAt.RcAt A s (.str i t) (.ref l) false := fun prog w E Q hQ =>
  SeqAt.rc_eq_decline_or (typeIs_str s i t) h.ty (by decide) sub_dict_str F.slot_str_eq F.slot_dict_eq_refl
    (fun _ hq => call_meets F.slot_str_eq (typeIs_str s i t) F.entry_str_eq (F.args_str_eq_2 _ _) (str_eq_no_dict i t l o es n h.cls h.dat) ⟨h.get, hq⟩)
    (fun _ hq => call_meets F.slot_dict_eq_refl h.ty F.entry_dict_eq (F.args_dict_eq_2 _ _) (dict_eq_no sub_str_dict l) ⟨(typeIs_str s i t), hq⟩)
    (fun _ hq => wpAny_of_eq rfl hq) (.inr hu) hQ
theorem rc_dic_str (i : Str) (t : Tok) (h : IsDic s l o es n) (hu : A.units < cLine) : SeqAt.RcAt A s (.ref l) (.str i t) false := fun prog w E Q hQ =>
  SeqAt.rc_eq_decline_or h.ty (typeIs_str s i t) (by decide) sub_str_dict F.slot_dict_eq F.slot_str_eq_refl
    (fun _ hq => call_meets F.slot_dict_eq h.ty F.entry_dict_eq (F.args_dict_eq_2 _ _) (dict_eq_no sub_str_dict l) ⟨(typeIs_str s i t), hq⟩)
    (fun _ hq => call_meets F.slot_str_eq_refl (typeIs_str s i t) F.entry_str_eq (F.args_str_eq_2 _ _) (str_eq_no_dict i t l o es n h.cls h.dat) ⟨h.get, hq⟩)
    (fun _ hq => wpAny_of_eq rfl hq) (.inr hu) hQ
theorem rc_none_dic  (h : IsDic s l o es n) (hu : A.units < cLine) : SeqAt.RcAt A s (.none) (.ref l) false := fun prog w E Q hQ =>
  SeqAt.rc_eq_decline_or rfl h.ty (by decide) sub_dict_none F.slot_NoneType_eq F.slot_dict_eq_refl
    (fun _ hq => call_gives F.slot_NoneType_eq rfl F.entry_NoneType_eq (F.args_NoneType_eq_2 _ _) (SeqAt.NoneType___eq___none_ref_0 l) hq)
    (fun _ hq => call_meets F.slot_dict_eq_refl h.ty F.entry_dict_eq (F.args_dict_eq_2 _ _) (dict_eq_no sub_none_dict l) ⟨rfl, hq⟩)
    (fun _ hq => wpAny_of_eq rfl hq) (.inr hu) hQ
theorem rc_dic_none  (h : IsDic s l o es n) (hu : A.units < cLine) : SeqAt.RcAt A s (.ref l) (.none) false := fun prog w E Q hQ =>
  SeqAt.rc_eq_decline_or h.ty rfl (by decide) sub_none_dict F.slot_dict_eq F.slot_NoneType_eq_refl
    (fun _ hq => call_meets F.slot_dict_eq h.ty F.entry_dict_eq (F.args_dict_eq_2 _ _) (dict_eq_no sub_none_dict l) ⟨rfl, hq⟩)
    (fun _ hq => call_gives F.slot_NoneType_eq_refl rfl F.entry_NoneType_eq (F.args_NoneType_eq_2 _ _) (SeqAt.NoneType___eq___none_ref_0 l) hq)
    (fun _ hq => wpAny_of_eq rfl hq) (.inr hu) hQ
theorem rc_list_dic {q : Addr} {items : Array Value} (hq0 : s.heap.IsList q items) (h : IsDic s l o es n) (hu : A.units < cLine) : SeqAt.RcAt A s (.ref q) (.ref l) false := fun prog w E Q hQ =>
  SeqAt.rc_eq_decline_or (tyL hq0) h.ty (by decide) sub_dict_list F.slot_list_eq F.slot_dict_eq_refl
    (fun _ hq => call_meets F.slot_list_eq (tyL hq0) F.entry_list_eq (F.args_list_eq_2 _ _) (list_eq_no l q o h.cls) ⟨h.get, hq⟩)
    (fun _ hq => call_meets F.slot_dict_eq_refl h.ty F.entry_dict_eq (F.args_dict_eq_2 _ _) (dict_eq_no sub_list_dict l) ⟨(tyL hq0), hq⟩)
    (fun _ hq => dic_isSame h (tyL hq0) (by decide) hq) (.inr hu) hQ
theorem rc_dic_list {q : Addr} {items : Array Value} (hq0 : s.heap.IsList q items) (h : IsDic s l o es n) (hu : A.units < cLine) : SeqAt.RcAt A s (.ref l) (.ref q) false := fun prog w E Q hQ =>
  SeqAt.rc_eq_decline_or h.ty (tyL hq0) (by decide) sub_list_dict F.slot_dict_eq F.slot_list_eq_refl
    (fun _ hq => call_meets F.slot_dict_eq h.ty F.entry_dict_eq (F.args_dict_eq_2 _ _) (dict_eq_no sub_list_dict l) ⟨(tyL hq0), hq⟩)
    (fun _ hq => call_meets F.slot_list_eq_refl (tyL hq0) F.entry_list_eq (F.args_list_eq_2 _ _) (list_eq_no l q o h.cls) ⟨h.get, hq⟩)
    (fun _ hq => isSame_dic h (tyL hq0) (by decide) hq) (.inr hu) hQ
theorem rc_tuple_dic {q : Addr} {items : Array Value} (hq0 : s.heap.IsTuple q items) (h : IsDic s l o es n) (hu : A.units < cLine) : SeqAt.RcAt A s (.ref q) (.ref l) false := fun prog w E Q hQ =>
  SeqAt.rc_eq_decline_or (tyT hq0) h.ty (by decide) sub_dict_tuple F.slot_tuple_eq F.slot_dict_eq_refl
    (fun _ hq => call_meets F.slot_tuple_eq (tyT hq0) F.entry_tuple_eq (F.args_tuple_eq_2 _ _) (tuple_eq_no l q o h.cls) ⟨h.get, hq⟩)
    (fun _ hq => call_meets F.slot_dict_eq_refl h.ty F.entry_dict_eq (F.args_dict_eq_2 _ _) (dict_eq_no sub_tuple_dict l) ⟨(tyT hq0), hq⟩)
    (fun _ hq => dic_isSame h (tyT hq0) (by decide) hq) (.inr hu) hQ
theorem rc_dic_tuple {q : Addr} {items : Array Value} (hq0 : s.heap.IsTuple q items) (h : IsDic s l o es n) (hu : A.units < cLine) : SeqAt.RcAt A s (.ref l) (.ref q) false := fun prog w E Q hQ =>
  SeqAt.rc_eq_decline_or h.ty (tyT hq0) (by decide) sub_tuple_dict F.slot_dict_eq F.slot_tuple_eq_refl
    (fun _ hq => call_meets F.slot_dict_eq h.ty F.entry_dict_eq (F.args_dict_eq_2 _ _) (dict_eq_no sub_tuple_dict l) ⟨(tyT hq0), hq⟩)
    (fun _ hq => call_meets F.slot_tuple_eq_refl (tyT hq0) F.entry_tuple_eq (F.args_tuple_eq_2 _ _) (tuple_eq_no l q o h.cls) ⟨h.get, hq⟩)
    (fun _ hq => isSame_dic h (tyT hq0) (by decide) hq) (.inr hu) hQ
end
end Dl
namespace Dl
open PySem PySem.Spec PyProof.Rows L2 Rt
theorem eqAt_str_any {A : Around} {s : Shared} {x : Value} {d : D} {as : List Addr} (b : Str) (u : Tok) (r : Reads s.heap x d as) (hu : A.units < cLine) : SeqAt.EqAt A s (.str b u) x (PyData.eqv (.str b) d) := by
  cases r with
  | none => exact SeqAt.EqAt.str_none b u
  | bool c => exact SeqAt.EqAt.str_bool b u c
  | int c t => exact SeqAt.EqAt.str_int b u c t
  | str c t => exact SeqAt.EqAt.str_str b u c t
  | list g c e _ => exact SeqAt.EqAt.str_list b u ⟨_, g, c, _, e⟩ hu
  | tuple g c e _ => exact SeqAt.EqAt.str_tuple b u ⟨_, g, c, _, e⟩ hu
  | dict g c e _ _ => exact eqAt_str_dict b u g c e hu
theorem key_reads {h : Heap} {k : Key} {u : Value} (e : keyIs k u = true) : Reads h u (kD k) [] := by
  cases k with
  | inl i =>
    have e : Value.isInt i u = true := e
    cases u <;> try (cases e; done)
    have e2 := eq_of_beq e
    rw [← e2]
    exact .int _ _
  | inr x =>
    have e : Value.isStrOf x u = true := e
    cases u <;> try (cases e; done)
    have e2 := eq_of_beq e
    rw [← e2]
    exact .str _ _
theorem keys_reads {h : Heap} : ∀ {ks : List Key} {us : List Value}, Vals (ks.map kV) us → ReadsAll h us (ks.map kD) []
  | [], _, r => by cases r; exact .nil
  | .inl i :: ks, _, r => by
    cases r with
    | cons r1 r2 =>
      obtain ⟨t, rfl⟩ := r1
      exact .cons (as := []) (.int i t) (keys_reads r2)
  | .inr x :: ks, _, r => by
    cases r with
    | cons r1 r2 =>
      obtain ⟨t, rfl⟩ := r1
      exact .cons (as := []) (.str x t) (keys_reads r2)
theorem dt_reads {P : Program} {w : World} {H : Hp} {h : Heap} (ok : HOk P w H h) {T : HeapKind P w (List Key)} : ∀ {kvs : List (List Key × Int)} {xs : List (List Key × Addr × Value)}, Paired (fun (p : List Key × V) (q : List Key × Addr × Value) => p.1 = q.1 ∧ H q.2.1 = some (.tup (p.1.map kV)) ∧ RelV p.2 q.2.2) (dtV kvs) xs → ReadsAll h (xs.map fun x => (entryOfKey T x).key) ((dtD kvs).map (·.1)) [] ∧ ReadsAll h (xs.map fun x => (entryOfKey T x).val) ((dtD kvs).map (·.2)) []
  | [], _, r => by cases r; exact ⟨.nil, .nil⟩
  | z :: kvs, _, r => by
    cases r with
    | cons r1 r2 =>
      obtain ⟨a1, a2, a3⟩ := r1
      obtain ⟨t1, t2⟩ := dt_reads ok (T := T) r2
      obtain ⟨t, e3⟩ := a3
      obtain ⟨_, its, rv, o, g1, g2, n, g3⟩ := (show ObjOk P w H h _ (.tup _) from ok _ _ a2)
      have hv : Reads h (Value.int z.2 t) (.int z.2) [] := .int _ _
      rw [← e3] at hv
      exact ⟨.cons (as := []) (.tuple g1 g2 g3 (by simpa using keys_reads rv)) t1, .cons (as := []) hv t2⟩
mutual
theorem Rp.reads {X : Cx} {pn : List (Addr × Obj)} {σ : L2.St} {M : Addr → Prop} {H : Hp} {s : Shared} (I : L2.Inv X pn σ H s) : ∀ {v : V} {d : D} {u : Value}, Rp M H v d → RelV v u → ∃ as, Reads s.heap u d as
  | _, _, _, .non, r => by cases r; exact ⟨_, .none⟩
  | _, _, _, .bl b, r => by cases r; exact ⟨_, .bool b⟩
  | _, _, _, .int i, r => by obtain ⟨t, rfl⟩ := r; exact ⟨_, .int i t⟩
  | _, _, _, .str x _, r => by obtain ⟨t, rfl⟩ := r; exact ⟨_, .str x t⟩
  | _, _, _, .tup t n l h, r => by
    cases r
    obtain ⟨its, vi, ⟨o, g, c, k, e⟩, _⟩ := I.tuple t.sq
    obtain ⟨as, ra⟩ := RpAll.reads I h vi
    exact ⟨_, .tuple g c e (by simpa using ra)⟩
  | _, _, _, .lst t n l h, r => by
    cases r
    obtain ⟨_, its, k, vi, g⟩ := I.hok _ _ t
    obtain ⟨as, ra⟩ := RpAll.reads I h vi
    exact ⟨_, .list g rfl rfl (by simpa using ra)⟩
  | _, _, _, .dic e n h, r => by
    cases r
    obtain ⟨_, _, vs, kv, o, es, ep, g, x, dd, _, pr, _⟩ := I.hok _ _ e
    obtain ⟨bs, ra, rb⟩ := RpKV.reads I h kv pr
    exact ⟨_, .dict g x.1 dd ra rb⟩
  | _, _, _, .dct e n h, r => by
    cases r
    subst h
    obtain ⟨_, _, xs, pr, o, es, ep, g, x, dd, el, _⟩ := I.hok _ _ e
    obtain ⟨ra, rb⟩ := dt_reads I.hok (T := tupleKind (mixKind X.prog X.w)) pr
    exact ⟨_, .dict (as := []) (bs := []) g x.1 dd (by rw [el, List.map_map]; exact ra) (by rw [el, List.map_map]; exact rb)⟩
theorem RpKV.reads {X : Cx} {pn : List (Addr × Obj)} {σ : L2.St} {M : Addr → Prop} {H : Hp} {s : Shared} (I : L2.Inv X pn σ H s) : ∀ {kvs : List (Key × V)} {es : List (D × D)} {us : List (Key × Value)} {el : List DictEntry}, RpKV M H kvs es → KV kvs us → Pairs (mixKind X.prog X.w) el us → ∃ bs, ReadsAll s.heap (el.map (·.key)) (es.map (·.1)) [] ∧ ReadsAll s.heap (el.map (·.val)) (es.map (·.2)) bs
  | _, _, _, _, .nil, kv, pr => by
    cases kv
    cases pr
    exact ⟨_, .nil, .nil⟩
  | _, _, _, _, .cons h t, kv, pr => by
    cases kv with
    | cons a kv =>
      cases pr with
      | cons k1 k2 pr =>
        obtain ⟨as, ra⟩ := Rp.reads I h a.2
        obtain ⟨bs, r1, r2⟩ := RpKV.reads I t kv pr
        refine ⟨as ++ bs, .cons (as := []) (key_reads (by have e := a.1; dsimp only at e; rw [e]; exact k1)) r1, .cons ?_ r2⟩
        dsimp only
        rw [k2]
        exact ra
theorem RpAll.reads {X : Cx} {pn : List (Addr × Obj)} {σ : L2.St} {M : Addr → Prop} {H : Hp} {s : Shared} (I : L2.Inv X pn σ H s) : ∀ {vs : List V} {ds : List D} {us : List Value}, RpAll M H vs ds → Vals vs us → ∃ as, ReadsAll s.heap us ds as
  | _, _, _, .nil, r => by cases r; exact ⟨_, .nil⟩
  | _, _, _, .cons h t, r => by
    cases r with
    | cons r1 r2 =>
      obtain ⟨as, ra⟩ := Rp.reads I h r1
      obtain ⟨bs, rb⟩ := RpAll.reads I t r2
      exact ⟨_, .cons ra rb⟩
end
end Dl
namespace Dl
open PySem PySem.Spec PyProof.Rows L2 Rt
def isStrD : D → Bool
  | .str _ => true
  | _ => false
def eqS (d : D) : Value → Bool
  | .str b _ => PyData.eqv (.str b) d
  | _ => false
theorem any_strs {M : Addr → Prop} {H : Hp} {d : D} : ∀ {vs : List V} {ds : List D} {us : List Value}, RpAll M H vs ds → Vals vs us → ds.all isStrD = true → us.any (eqS d) = ds.any fun z => PyData.eqv z d
  | _, _, _, .nil, r, _ => by cases r; rfl
  | _, _, _, .cons h t, r, e => by
    cases r with
    | cons r1 r2 =>
      have e := Bool.and_eq_true_iff.mp e
      cases h <;> try (exact absurd e.1 Bool.false_ne_true)
      obtain ⟨tk, rfl⟩ := r1
      exact congrArg _ (any_strs t r2 e.2)
theorem mem_strs {M : Addr → Prop} {H : Hp} : ∀ {vs : List V} {ds : List D} {us : List Value}, RpAll M H vs ds → Vals vs us → ds.all isStrD = true → ∀ y ∈ us, ∃ b t, y = .str b t
  | _, _, _, .nil, r, _ => by cases r; exact fun _ h => nomatch h
  | _, _, _, .cons h t, r, e => by
    cases r with
    | cons r1 r2 =>
      have e := Bool.and_eq_true_iff.mp e
      cases h <;> try (exact absurd e.1 Bool.false_ne_true)
      obtain ⟨tk, rfl⟩ := r1
      intro y hy
      rcases List.mem_cons.mp hy with rfl | hy
      · exact ⟨_, _, rfl⟩
      · exact mem_strs t r2 e.2 y hy
variable {X : Cx}
def inS : D → D → Option D
  | a, .tuple ds => if ds.all isStrD = true then some (.bool (ds.any fun z => PyData.eqv z a)) else none
  | _, _ => none
def ninS : D → D → Option D
  | a, .tuple ds => if ds.all isStrD = true then some (.bool (!ds.any fun z => PyData.eqv z a)) else none
  | _, _ => none
theorem o_inS (hu : X.A.units + 65 < cLine) : OpR X (compareOp .In) (rD inS) := by
  intro pn s σ H x y v u Q I rx ry h
  obtain ⟨M, a, b, d, dm, ra, rb, e, q⟩ := h
  cases rb <;> (try (cases ra <;> cases e; done))
  rename_i xs ds t n l r
  obtain ⟨l2, rfl⟩ := iteS (show (if ds.all isStrD = true then some (PyData.bool (ds.any fun z => PyData.eqv z a)) else none) = some d by cases a <;> exact e)
  cases ry
  obtain ⟨as, r1⟩ := Rp.reads I ra rx
  obtain ⟨its, vi, it, _⟩ := I.tuple t.sq
  refine SeqAt.in_tupleAt (eqS a) it (fun y hy => ?_) ⟨.bl _, H, I, ?_, q _ _ (Same.refl _) (.bl _)⟩
  · obtain ⟨b, tk, rfl⟩ := mem_strs r vi l2 y (by simpa using hy)
    exact eqAt_str_any b tk r1 (show X.A.units + 1 < cLine by omega)
  · show Value.bool _ = Value.bool _
    rw [← any_strs r vi l2]
    simp
theorem o_ninS (hu : X.A.units + 65 < cLine) : OpR X (compareOp .NotIn) (rD ninS) := by
  intro pn s σ H x y v u Q I rx ry h
  obtain ⟨M, a, b, d, dm, ra, rb, e, q⟩ := h
  cases rb <;> (try (cases ra <;> cases e; done))
  rename_i xs ds t n l r
  obtain ⟨l2, rfl⟩ := iteS (show (if ds.all isStrD = true then some (PyData.bool (!ds.any fun z => PyData.eqv z a)) else none) = some d by cases a <;> exact e)
  cases ry
  obtain ⟨as, r1⟩ := Rp.reads I ra rx
  obtain ⟨its, vi, it, _⟩ := I.tuple t.sq
  refine SeqAt.notIn_tupleAt (eqS a) it (fun y hy => ?_) ⟨.bl _, H, I, ?_, q _ _ (Same.refl _) (.bl _)⟩
  · obtain ⟨b, tk, rfl⟩ := mem_strs r vi l2 y (by simpa using hy)
    exact eqAt_str_any b tk r1 (show X.A.units + 1 < cLine by omega)
  · show Value.bool _ = Value.bool _
    rw [← any_strs r vi l2]
    simp
end Dl
namespace Dl
open PySem PySem.Spec PyProof.Rows L2 Rt
variable {X : Cx}
def neT0 : D → D → Option D
  | .tuple ds, .tuple [] => some (.bool (!ds.isEmpty))
  | _, _ => none
theorem o_neT0 (hu : X.A.units + 64 < cLine) : OpR X (compareOp .NotEq) (rD neT0) := by
  intro pn s σ H x y v u Q I rx ry h
  obtain ⟨M, a, b, d, dm, ra, rb, e, q⟩ := h
  cases ra <;> (try (cases rb <;> cases e; done))
  rename_i xs ds t n l r
  cases rb <;> (try (cases e; done))
  rename_i xs2 ds2 t2 n2 l2 r2
  cases r2 <;> (try (cases e; done))
  cases e
  cases rx
  cases ry
  obtain ⟨its, vi, it, _⟩ := I.tuple t.sq
  obtain ⟨its2, vi2, it2, _⟩ := I.tuple t2.sq
  cases vi2
  refine SeqAt.RcNeAt.tuples (e := fun _ => true) it it2 (by omega) (fun j _ h2 => absurd h2 (by simp)) _ _ _ _ ⟨.bl _, H, I, ?_, q _ _ (Same.refl _) (.bl _)⟩
  show Value.bool _ = Value.bool _
  congr 1
  cases r <;> cases vi <;> simp
end Dl
namespace Rt
open PySem PySem.Spec PyProof.Rows L2
section
variable {prog : Program} {w : World} {A : Around} {E : Value → Shared → Prop} {s : Shared}
theorem sa_rev {sl : Addr} {vl vu vk : Value} {n : Nat} {Q : Int × Int × Nat → Shared → Prop} (hs : s.heap.IsSliceOf sl vl vu vk) (pl : IsPart vl none) (pu : IsPart vu none) (pk : IsPart vk (some (-1)))
    (h : Q ((n : Int) - 1, -1, n) s) : wpAny (model prog w) A (Builtin.Slice.sliceApplied (.ref sl) (pure (n : Int))) Q E s := by
  obtain ⟨os, hos, hcs, hds⟩ := id hs
  unfold Builtin.Slice.sliceApplied Builtin.Slice.sliceFields
  refine wpAny_bind (wpAny_bind (wpAny_field hos hds (x := vl) rfl (wpAny_bind (wpAny_field hos hds (x := vu) rfl (wpAny_bind (wpAny_field hos hds (x := vk) rfl (wpAny_pure ?_)))))))
  refine wpAny_bind (HT.slicePart_ pk ?_)
  show wpAny _ _ (if ((-1 : Int) == 0) = true then _ else _) _ _ s
  rw [if_neg (by decide)]
  refine wpAny_bind (HT.slicePart_ pl (wpAny_bind (HT.slicePart_ pu (wpAny_bind (wpAny_pure ?_)))))
  have e1 : Builtin.Slice.sliceAdjust none none (-1) (n : Int) = ((n : Int) - 1, -1) := by
    unfold Builtin.Slice.sliceAdjust
    simp
  have e2 : Builtin.Slice.slicePlaces ((n : Int) - 1) (-1) (-1) = n := by
    unfold Builtin.Slice.slicePlaces
    rw [if_neg (by decide)]
    by_cases hn : (n : Int) - 1 > -1
    · rw [if_pos hn, show (-(-1) : Int) = 1 by decide, Int.ediv_one]
      omega
    · rw [if_neg hn]
      omega
  show wpAny _ _ (match Builtin.Slice.sliceAdjust none none (-1) (n : Int) with | (lo, hi) => pure (lo, (-1 : Int), Builtin.Slice.slicePlaces lo hi (-1))) _ _ s
  rw [e1]
  show wpAny _ _ (pure ((n : Int) - 1, (-1 : Int), Builtin.Slice.slicePlaces ((n : Int) - 1) (-1) (-1))) _ _ s
  rw [e2]
  exact wpAny_pure h
theorem fm_congr {α β : Type} {f g : α → Option β} : ∀ {l : List α}, (∀ x ∈ l, f x = g x) → l.filterMap f = l.filterMap g
  | [], _ => rfl
  | a :: r, h => by
    rw [List.filterMap_cons, List.filterMap_cons, h a List.mem_cons_self, fm_congr fun x hx => h x (List.mem_cons_of_mem _ hx)]
theorem pick_rev (xs : Array Value) : ((List.range xs.size).filterMap fun (m : Nat) => xs[(((xs.size : Int) - 1) + (m : Int) * (-1)).toNat]?).toArray = xs.toList.reverse.toArray := by
  congr 1
  have e : (List.range xs.size).filterMap (fun (m : Nat) => xs[(((xs.size : Int) - 1) + (m : Int) * (-1)).toNat]?) = (List.range xs.size).filterMap (fun (m : Nat) => xs.toList.reverse[m]?) := by
    refine fm_congr fun m hm => ?_
    have hm := List.mem_range.mp hm
    have e2 : (((xs.size : Int) - 1) + (m : Int) * (-1)).toNat = xs.size - 1 - m := by omega
    rw [e2, List.getElem?_reverse (by rw [Array.length_toList]; exact hm), Array.length_toList, Array.getElem?_toList]
  rw [e]
  have g : ∀ l : List Value, (List.range l.length).filterMap (fun m => l[m]?) = l := by
    intro l
    induction l with
    | nil => rfl
    | cons a r ih =>
      rw [List.length_cons, List.range_succ_eq_map, List.filterMap_cons]
      simp only [List.getElem?_cons_zero, List.filterMap_map]
      congr 1
  have := g xs.toList.reverse
  rwa [List.length_reverse, Array.length_toList] at this
theorem item_rev {t sl : Addr} {items : Array Value} {vl vu vk : Value} {Q : Value → Shared → Prop} (ht : IsTup s.heap t items) (hs : s.heap.IsSliceOf sl vl vu vk) (pl : IsPart vl none) (pu : IsPart vu none) (pk : IsPart vk (some (-1)))
    (h : Q (.ref s.heap.objs.size) { s with heap := s.heap.push { cls := .type "tuple", data := .seq items.toList.reverse.toArray } })
    (hsz : items.size ≤ sizeLine) : wpAny (model prog w) A (getItem (.ref t) (.ref sl)) Q E s := by
  have htk : sizeOk (.seq items.toList.reverse.toArray) := by
    show items.toList.reverse.toArray.size ≤ sizeLine
    rw [List.size_toArray, List.length_reverse, Array.length_toList]
    exact hsz
  obtain ⟨os, hos, hcs, hds⟩ := id hs
  have hT2 : s.TypeIs (.ref sl) "slice" := ⟨os, hos, hcs⟩
  unfold getItem
  try with_reducible refine wpAny_holding ?_
  first | refine wpAny_bind (wpAny_pure ?_) | skip
  refine wpAny_bind (wpAny_sequenceKey ht.typeIs (by decide) ?_)
  refine wpAny_bind (wpAny_callSpecial?_slot (name := Str.ofString "__getitem__") ht.typeIs PyProof.Rows.slot_tuple_getitem (wpAny_call_entry PyProof.Rows.slot_tuple_getitem ht.typeIs entry_tuple_getitem ?_ (args_tuple_getitem _ _)))
  show wpAny _ _ (Builtin.Tuple.tupleItemsOf (.ref t) >>= _) _ _ s
  refine wpAny_bind (tupleItemsOf_ ht (wpAny_bind (wpAny_typeOf hT2 ?_)))
  rw [if_pos (by decide)]
  refine wpAny_bind (sa_rev (n := items.size) hs pl pu pk ?_)
  have hno : ¬ ((((items.size : Int) - 1) == 0 && (-1 : Int) == 1 && items.size == items.size) = true) := by
    intro z
    rw [Bool.and_eq_true, Bool.and_eq_true] at z
    exact absurd z.1.2 (by decide)
  show wpAny _ _ (if (((items.size : Int) - 1) == 0 && (-1 : Int) == 1 && items.size == items.size) = true then _ else _) _ _ s
  rw [if_neg hno, pick_rev]
  first
    | exact wpAny_bind (m := Builtin.Tuple.tupleExact _) (wpAny_newObj_type (wpAny_pure ⟨_, rfl, wpAny_pure h⟩) htk)
    | exact wpAny_bind (m := Builtin.Tuple.tupleExact _) (wpAny_newObj_type (wpAny_bind (wpAny_pure (wpAny_pure ⟨_, rfl, wpAny_pure h⟩))) htk)
    | exact wpAny_bind (wpAny_bind (m := Builtin.Tuple.tupleExact _) (wpAny_newObj_type (wpAny_pure (wpAny_pure ⟨_, rfl, wpAny_pure h⟩)) htk))
    | exact wpAny_bind (wpAny_bind (m := Builtin.Tuple.tupleExact _) (wpAny_newObj_type (wpAny_pure ⟨_, rfl, wpAny_pure h⟩) htk))
end
section
variable {X : Cx}
def tRevT (K : PySem.W.Frag) (te : TE) : TE := fun σ H Q => te σ H fun x H1 => ∃ a xs, x = .ref a ∧ SqT K H1 a xs ∧ ∀ p, H1 p = none → Q (.ref p) (upd H1 p (.tup xs.reverse))
theorem pe_revT {e : Expr} {te : TE} {k : Nat} {p1 p2 p3 pos : Pos} (he : PE X e te) : PE X (.Subscript e (.Slice none none (some (.UnaryOp .USub (.Constant (.int 1) k p1) p2)) p3) pos) (tRevT X.K te) := by
  refine ⟨fun pn s σ H Q I h => ?_⟩
  refine Subscript_ (thn (he.run pn s σ H _ I h) fun v s1 ⟨x, H1, I1, r1, q1⟩ => ?_)
  obtain ⟨a, xs, ex, hx, q⟩ := q1
  subst ex
  cases r1
  have hst : PO X (some (.UnaryOp .USub (.Constant (.int 1) k p1) p2)) (tPart (tUn (rU fun i => .int (-i)) (tC (.int 1)))) := po_some (pe_un un_neg pe_int)
  refine wpAny_Slice (thn (po_none.run pn s1 σ H1 (fun o H2 => o = none ∧ H2 = H1) I1 ⟨rfl, rfl⟩) fun vl s2 ⟨l, H2, I2, pl, el, e2⟩ => ?_)
  subst el e2
  refine thn (po_none.run pn s2 σ H2 (fun o H3 => o = none ∧ H3 = H2) I2 ⟨rfl, rfl⟩) fun vu s3 ⟨u, H3, I3, pu, eu, e3⟩ => ?_
  subst eu e3
  refine thn (hst.run pn s3 σ H3 (fun o H4 => o = some (-1) ∧ H4 = H3) I3 ⟨1, rfl, -1, rfl, rfl, rfl⟩) fun vs s4 ⟨o, H4, I4, ps, eo, e4⟩ => ?_
  subst eo e4
  have I5 : Inv X pn σ H4 { s4 with heap := s4.heap.push { cls := .type "slice", data := .fields #[vl, vu, vs] } } := I4.kept (t' := s4.toks) fun b ob q => Heap.get?_push_of_some _ q
  obtain ⟨its, r, ht, hz⟩ := I5.tuple hx
  have hlen := r.length
  show wpAny (model X.prog X.w) X.A (subscriptTail e (.Slice none none (some (.UnaryOp .USub (.Constant (.int 1) k p1) p2)) p3) (.ref a) (.ref s4.heap.objs.size)) (EP X pn σ Q) X.xe { s4 with heap := s4.heap.push { cls := .type "slice", data := .fields #[vl, vu, vs] } }
  refine tail_any (ops := [.ref a, .ref s4.heap.objs.size]) ht.typeIs (PyProof.Rows.slot_tuple_getitem.lookup) ?_ (by with_unfolding_all rfl)
  refine item_rev ht (Heap.IsSliceOf.new _ vl vu vs) pl pu ps ?_ (by rw [List.size_toArray]; omega)
  refine ⟨.ref _, _, I5.laid (t' := s4.toks) (o := .tup xs.reverse) (fun b ob q => Heap.get?_push_of_some _ q) (Nat.le_refl _) ?_, rfl, q _ (I5.hok.fresh (Nat.le_refl _))⟩
  exact ⟨by rw [List.length_reverse]; exact hz, _, r.reverse, IsTup.new _ _⟩
end
end Rt
namespace Dl
open PySem PySem.Spec PyProof.Rows L2 Rt
/-! ### data of any sort: texts of true signs, tuples that aren't too long -/
mutual
def gq : D → Bool
  | .str z => PyData.strOk z
  | .tuple ds => decide (ds.length ≤ 1000) && gqAll ds
  | _ => true
def gqAll : List D → Bool
  | [] => true
  | d :: ds => gq d && gqAll ds
end
theorem gqAll.mem : ∀ {ds : List D}, gqAll ds = true → ∀ d ∈ ds, gq d = true
  | [], _ => fun d m => nomatch m
  | x :: xs, h => by
    have h := Bool.and_eq_true_iff.mp (show (gq x && gqAll xs) = true from h)
    intro d m
    rcases List.mem_cons.mp m with e | e
    · rw [e]; exact h.1
    · exact gqAll.mem h.2 d e
theorem gqAll.of : ∀ {ds : List D}, (∀ d ∈ ds, gq d = true) → gqAll ds = true
  | [], _ => rfl
  | x :: xs, h => Bool.and_eq_true_iff.mpr ⟨h x (by simp), gqAll.of fun d m => h d (by simp [m])⟩
theorem gq.two {ds : List D} (h : gq (.tuple ds) = true) : ds.length ≤ 1000 ∧ ∀ d ∈ ds, gq d = true := by
  have h := Bool.and_eq_true_iff.mp (show (decide (ds.length ≤ 1000) && gqAll ds) = true from h)
  exact ⟨of_decide_eq_true h.1, gqAll.mem h.2⟩
theorem gq.tup {ds : List D} (h : gq (.tuple ds) = true) : ∀ d ∈ ds, gq d = true := (gq.two h).2
def okK : D → Bool
  | .tuple ks => ks.all isStrD
  | _ => false
theorem ninS_tup {a : D} {ks : List D} (_h : gq a = true) (k : okK (.tuple ks) = true) : ninS a (.tuple ks) = some (.bool (!ks.any fun z => PyData.eqv z a)) := by
  cases a <;> exact if_pos k
theorem inS_tup {a : D} {ks : List D} (_h : gq a = true) (k : okK (.tuple ks) = true) : inS a (.tuple ks) = some (.bool (ks.any fun z => PyData.eqv z a)) := by
  cases a <;> exact if_pos k
section
variable {X : Cx}
/-- a list beside [] -/
def neL0 : D → D → Option D
  | .list ds, .list [] => some (.bool (!ds.isEmpty))
  | _, _ => none
theorem o_neL0 (hu : X.A.units + 64 < cLine) : OpR X (compareOp .NotEq) (rD neL0) := by
  intro pn s σ H x y v u Q I rx ry h
  obtain ⟨M, a, b, d, dm, ra, rb, e, q⟩ := h
  cases ra <;> (try (cases rb <;> cases e; done))
  rename_i xs ds t n l r
  cases rb <;> (try (cases e; done))
  rename_i xs2 ds2 t2 n2 l2 r2
  cases r2 <;> (try (cases e; done))
  cases e
  cases rx
  cases ry
  obtain ⟨_, its, k, vi, g⟩ := I.hok _ _ t
  obtain ⟨_, its2, k2, vi2, g2⟩ := I.hok _ _ t2
  cases vi2
  cases r with
  | nil =>
    cases vi
    refine SeqAt.RcNeAt.lists (e := fun _ => true) ⟨_, g, rfl, _, rfl⟩ ⟨_, g2, rfl, _, rfl⟩ rfl (by omega) (fun j h1 _ => absurd h1 (by simp)) _ _ _ _ ⟨.bl _, H, I, ?_, q _ _ (Same.refl _) (.bl _)⟩
    show Value.bool _ = Value.bool _
    simp
  | cons h1 h2 =>
    cases vi
    refine SeqAt.RcNeAt.lists_lengths ⟨_, g, rfl, _, rfl⟩ ⟨_, g2, rfl, _, rfl⟩ (by simp) (by omega) _ _ _ _ ⟨.bl _, H, I, ?_, q _ _ (Same.refl _) (.bl _)⟩
    rfl
/-- truths among numbers -/
def addX : D → D → Option D
  | .bool a, .int j => some (.int ((if a = true then (1 : Int) else 0) + j))
  | a, b => addD a b
def subX : D → D → Option D
  | .bool a, .int j => some (.int ((if a = true then (1 : Int) else 0) - j))
  | a, b => subD a b
theorem o_addX : OpR X (binaryOp .Add) (rD addX) := by
  intro pn s σ H x y v u Q I rx ry h
  obtain ⟨M, a, b, d, dm, ra, rb, e, q⟩ := h
  by_cases hb : ∃ k j, a = .bool k ∧ b = .int j
  · obtain ⟨k, j, rfl, rfl⟩ := hb
    cases e
    cases ra
    cases rb
    cases rx
    obtain ⟨t, rfl⟩ := ry
    exact PySem.IntBool.add_bool_int ⟨.int _, H, I.tok _, ⟨_, rfl⟩, q _ _ (Same.refl _) (.int _)⟩
  · refine o_add pn s σ H _ _ v u Q I rx ry ⟨M, a, b, d, dm, ra, rb, ?_, q⟩
    unfold addX at e
    split at e
    · exact (hb ⟨_, _, rfl, rfl⟩).elim
    · exact e
theorem o_subX : OpR X (binaryOp .Sub) (rD subX) := by
  intro pn s σ H x y v u Q I rx ry h
  obtain ⟨M, a, b, d, dm, ra, rb, e, q⟩ := h
  by_cases hb : ∃ k j, a = .bool k ∧ b = .int j
  · obtain ⟨k, j, rfl, rfl⟩ := hb
    cases e
    cases ra
    cases rb
    cases rx
    obtain ⟨t, rfl⟩ := ry
    exact PySem.IntBool.sub_bool_int ⟨.int _, H, I.tok _, ⟨_, rfl⟩, q _ _ (Same.refl _) (.int _)⟩
  · refine o_sub pn s σ H _ _ v u Q I rx ry ⟨M, a, b, d, dm, ra, rb, ?_, q⟩
    unfold subX at e
    split at e
    · exact (hb ⟨_, _, rfl, rfl⟩).elim
    · exact e
/-- slices of texts, too -/
def slX : D → Option Int → Option Int → Option D
  | .str z, lo, hi => some (.str (cutS z lo hi))
  | d, lo, hi => slD d lo hi
def rSlX' : V → Option Int → Option Int → Hp → VK → Prop := fun x lo hi H Q => ∃ M a d, Dom M H ∧ Rp M H x a ∧ slX a lo hi = some d ∧ ∀ v H', Same H H' → Rp M H' v d → Q v H'
theorem s_slX : SlR X rSlX' := by
  intro pn s σ H x v vl vu lo hi sl Q I rx hs pl pu h
  obtain ⟨M, a, d, dm, ra, e, q⟩ := h
  by_cases hz : ∃ z, a = .str z
  · obtain ⟨z, rfl⟩ := hz
    cases e
    cases ra
    rename_i hz
    exact sl_str pn s σ H _ v vl vu lo hi sl Q I rx hs pl pu ⟨z, rfl, hz, q _ _ (Same.refl _) (.str _ (Nat.le_trans (cutS_length _ _ _) hz))⟩
  · refine s_sl pn s σ H _ v vl vu lo hi sl Q I rx hs pl pu ⟨M, a, d, dm, ra, ?_, q⟩
    cases a <;> first | exact e | exact (hz ⟨_, rfl⟩).elim
def eSlX (f : EF) (lo hi : Rho → Option (Option Int)) : EF := fun ρ => (f ρ).bind fun d => (lo ρ).bind fun l => (hi ρ).bind fun h => slX d l h
theorem dE_slX {e : Expr} {lo hi : Option Expr} {pos p2 : Pos} {f : EF} {g h : Rho → Option (Option Int)} {μ : Bool} (he : PE X e (tD μ f)) (hl : PO X lo (tPo g)) (hh : PO X hi (tPo h)) : PE X (.Subscript e (.Slice lo hi none p2) pos) (tD μ (eSlX f g h)) := (pe_slice s_slX he hl hh).wk fun σ H Q q => by
  obtain ⟨M0, H0, ρ, d, R, e, q⟩ := q
  obtain ⟨d1, e1, e⟩ := some_bind e
  obtain ⟨l, el, e⟩ := some_bind e
  obtain ⟨u, eu, e⟩ := some_bind e
  exact ⟨M0, H0, ρ, d1, R, e1, fun v H1 s1 r1 => ⟨M0, H0, ρ, l, R.mono s1, el, fun H2 s2 => ⟨M0, H0, ρ, u, R.mono (s1.trans s2), eu, fun H3 s3 => ⟨_, d1, d, (R.mono ((s1.trans s2).trans s3)).domu μ, r1.mono (.of (s2.trans s3)), e, fun v H4 s4 r4 => q v H4 (((s1.trans s2).trans s3).trans s4) r4⟩⟩⟩⟩
/-- t[::-1] -/
def tRevF (K : PySem.W.Frag) (te : TE) : TE := fun σ H Q => te σ H fun x H1 => ∃ a xs, x = .ref a ∧ SqT K H1 a xs ∧ ∀ p H', H1 p = none → Same H1 H' → TupF H' p xs.reverse → Q (.ref p) H'
theorem pe_revF {e : Expr} {te : TE} {k : Nat} {p1 p2 p3 pos : Pos} (he : PE X e te) : PE X (.Subscript e (.Slice none none (some (.UnaryOp .USub (.Constant (.int 1) k p1) p2)) p3) pos) (tRevF X.K te) := by
  refine ⟨fun pn s σ H Q I h => ?_⟩
  refine Subscript_ (thn (he.run pn s σ H _ I h) fun v s1 ⟨x, H1, I1, r1, q1⟩ => ?_)
  obtain ⟨a, xs, ex, hx, q⟩ := q1
  subst ex
  cases r1
  have hst : PO X (some (.UnaryOp .USub (.Constant (.int 1) k p1) p2)) (tPart (tUn (rU fun i => .int (-i)) (tC (.int 1)))) := po_some (pe_un un_neg pe_int)
  refine wpAny_Slice (thn (po_none.run pn s1 σ H1 (fun o H2 => o = none ∧ H2 = H1) I1 ⟨rfl, rfl⟩) fun vl s2 ⟨l, H2, I2, pl, el, e2⟩ => ?_)
  subst el e2
  refine thn (po_none.run pn s2 σ H2 (fun o H3 => o = none ∧ H3 = H2) I2 ⟨rfl, rfl⟩) fun vu s3 ⟨u, H3, I3, pu, eu, e3⟩ => ?_
  subst eu e3
  refine thn (hst.run pn s3 σ H3 (fun o H4 => o = some (-1) ∧ H4 = H3) I3 ⟨1, rfl, -1, rfl, rfl, rfl⟩) fun vs s4 ⟨o, H4, I4, ps, eo, e4⟩ => ?_
  subst eo e4
  have I5 : Inv X pn σ H4 { s4 with heap := s4.heap.push { cls := .type "slice", data := .fields #[vl, vu, vs] } } := I4.kept (t' := s4.toks) fun b ob q => Heap.get?_push_of_some _ q
  obtain ⟨its, r, ht, hz⟩ := I5.tuple hx
  have hlen := r.length
  show wpAny (model X.prog X.w) X.A (subscriptTail e (.Slice none none (some (.UnaryOp .USub (.Constant (.int 1) k p1) p2)) p3) (.ref a) (.ref s4.heap.objs.size)) (EP X pn σ Q) X.xe { s4 with heap := s4.heap.push { cls := .type "slice", data := .fields #[vl, vu, vs] } }
  refine tail_any (ops := [.ref a, .ref s4.heap.objs.size]) ht.typeIs (PyProof.Rows.slot_tuple_getitem.lookup) ?_ (by with_unfolding_all rfl)
  refine item_rev ht (Heap.IsSliceOf.new _ vl vu vs) pl pu ps ?_ (by rw [List.size_toArray]; omega)
  have fr := I5.hok.fresh (Nat.le_refl _)
  exact ⟨.ref _, _, Inv.tupF I5 r.reverse (by rw [List.length_reverse]; exact hz), rfl, q _ _ fr (smN fr) updF⟩
def revD : D → Option D
  | .tuple ds => some (.tuple ds.reverse)
  | _ => none
theorem RpAll.rev {M : Addr → Prop} {H : Hp} : ∀ {vs : List V} {ds : List D}, RpAll M H vs ds → RpAll M H vs.reverse ds.reverse
  | _, _, .nil => .nil
  | _, _, .cons h t => by rw [List.reverse_cons, List.reverse_cons]; exact t.rev.app (.cons h .nil)
theorem dE_rev {e : Expr} {k : Nat} {p1 p2 p3 pos : Pos} {f : EF} {μ : Bool} (h : PE X e (tD μ f)) : PE X (.Subscript e (.Slice none none (some (.UnaryOp .USub (.Constant (.int 1) k p1) p2)) p3) pos) (tD μ (e1 revD f)) := (pe_revF h).wk fun σ H Q q => by
  obtain ⟨M0, H0, ρ, d, R, e, q⟩ := q
  obtain ⟨d1, e1, e⟩ := some_bind e
  refine ⟨M0, H0, ρ, d1, R, e1, fun v H1 s1 r1 => ?_⟩
  cases r1 <;> try (cases e; done)
  rename_i t n l r
  cases e
  exact ⟨_, _, rfl, t.sq, fun p H2 np s2 t2 => q _ H2 (s1.trans s2) (.tup t2 (((R.mono s1).domu μ).not np) (by rw [List.length_reverse]; exact l) (r.rev.mono (.of s2)))⟩
/-- {} -/
theorem dE_dic0 {pos : Pos} {μ : Bool} : PE X (.Dict [] [] pos) (tD μ (eC (.dict []))) := pe_dnewK.wk fun σ H Q q => by
  obtain ⟨M0, H0, ρ, d, R, e, q⟩ := q
  cases e
  exact fun p np => q _ _ (smN np) (.dic upd_same ((R.domu μ).not np) .nil)
/-! ### shown -/
mutual
theorem Rp.readsN {X : Cx} {pn : List (Addr × Obj)} {σ : L2.St} {M : Addr → Prop} {H : Hp} {s : Shared} (I : L2.Inv X pn σ H s) (hB : ∃ o, X.base.get? sysModules = some o) : ∀ {v : V} {d : D} {u : Value}, Rp M H v d → RelV v u → ∃ as, Reads s.heap u d as ∧ sysModules ∉ as
  | _, _, _, .non, r => by cases r; exact ⟨_, .none, by simp⟩
  | _, _, _, .bl b, r => by cases r; exact ⟨_, .bool b, by simp⟩
  | _, _, _, .int i, r => by obtain ⟨t, rfl⟩ := r; exact ⟨_, .int i t, by simp⟩
  | _, _, _, .str x _, r => by obtain ⟨t, rfl⟩ := r; exact ⟨_, .str x t, by simp⟩
  | _, _, _, .tup t n l h, r => by
    cases r
    obtain ⟨its, vi, ⟨o, g, c, k, e⟩, _⟩ := I.tuple t.sq
    obtain ⟨as, ra, na⟩ := RpAll.readsN I hB h vi
    exact ⟨_, .tuple g c e (by simpa using ra), na⟩
  | _, _, _, .lst t n l h, r => by
    cases r
    obtain ⟨_, its, k, vi, g⟩ := I.hok _ _ t
    obtain ⟨as, ra, na⟩ := RpAll.readsN I hB h vi
    refine ⟨_, .list g rfl rfl (by simpa using ra), fun m => ?_⟩
    rcases List.mem_cons.mp m with z | z
    · obtain ⟨o, hB⟩ := hB
      have := (I.bs _ _ hB).2
      rw [z, t] at this
      cases this
    · exact na z
  | _, _, _, .dic e n h, r => by
    cases r
    have hs := (dk_of I.hok e).2.1
    obtain ⟨_, _, vs, kv, o, es, ep, g, x, dd, _, pr, _⟩ := I.hok _ _ e
    obtain ⟨bs, ra, rb, nb⟩ := RpKV.readsN I hB h kv pr
    exact ⟨_, .dict g x.1 dd ra rb, fun m => by
      rcases List.mem_append.mp m with m | m
      · rcases List.mem_cons.mp m with z | z
        · exact beq_eq_false_iff_ne.mp hs z.symm
        · cases z
      · exact nb m⟩
  | _, _, _, .dct e n h, r => by
    cases r
    subst h
    have hs := (dt_of I.hok e).2.1
    obtain ⟨_, _, xs, pr, o, es, ep, g, x, dd, el, _⟩ := I.hok _ _ e
    obtain ⟨ra, rb⟩ := dt_reads I.hok (T := tupleKind (mixKind X.prog X.w)) pr
    exact ⟨_, .dict (as := []) (bs := []) g x.1 dd (by rw [el, List.map_map]; exact ra) (by rw [el, List.map_map]; exact rb), fun m => by
      rcases List.mem_cons.mp m with z | z
      · exact beq_eq_false_iff_ne.mp hs z.symm
      · cases z⟩
theorem RpKV.readsN {X : Cx} {pn : List (Addr × Obj)} {σ : L2.St} {M : Addr → Prop} {H : Hp} {s : Shared} (I : L2.Inv X pn σ H s) (hB : ∃ o, X.base.get? sysModules = some o) : ∀ {kvs : List (Key × V)} {es : List (D × D)} {us : List (Key × Value)} {el : List DictEntry}, RpKV M H kvs es → KV kvs us → Pairs (mixKind X.prog X.w) el us → ∃ bs, ReadsAll s.heap (el.map (·.key)) (es.map (·.1)) [] ∧ ReadsAll s.heap (el.map (·.val)) (es.map (·.2)) bs ∧ sysModules ∉ bs
  | _, _, _, _, .nil, kv, pr => by
    cases kv
    cases pr
    exact ⟨_, .nil, .nil, by simp⟩
  | _, _, _, _, .cons h t, kv, pr => by
    cases kv with
    | cons a kv =>
      cases pr with
      | cons k1 k2 pr =>
        obtain ⟨as, ra, na⟩ := Rp.readsN I hB h a.2
        obtain ⟨bs, r1, r2, nb⟩ := RpKV.readsN I hB t kv pr
        refine ⟨as ++ bs, .cons (as := []) (key_reads (by have e := a.1; dsimp only at e; rw [e]; exact k1)) r1, .cons ?_ r2, by simp [na, nb]⟩
        dsimp only
        rw [k2]
        exact ra
theorem RpAll.readsN {X : Cx} {pn : List (Addr × Obj)} {σ : L2.St} {M : Addr → Prop} {H : Hp} {s : Shared} (I : L2.Inv X pn σ H s) (hB : ∃ o, X.base.get? sysModules = some o) : ∀ {vs : List V} {ds : List D} {us : List Value}, RpAll M H vs ds → Vals vs us → ∃ as, ReadsAll s.heap us ds as ∧ sysModules ∉ as
  | _, _, _, .nil, r => by cases r; exact ⟨_, .nil, by simp⟩
  | _, _, _, .cons h t, r => by
    cases r with
    | cons r1 r2 =>
      obtain ⟨as, ra, na⟩ := Rp.readsN I hB h r1
      obtain ⟨bs, rb, nb⟩ := RpAll.readsN I hB t r2
      exact ⟨_, .cons ra rb, by simp [na, nb]⟩
end
def reprD : List D → Option D
  | [d] => if d.showable = true ∧ d.depth ≤ 60 ∧ d.shown.length ≤ sizeLine then some (.str d.shown) else none
  | _ => none
theorem c_repr (free : X.A.guards = some []) (hB : ∃ o, X.base.get? sysModules = some o) (hu : X.A.units + 64 < cLine) : CallR X (.builtin "repr") (rC reprD) := by
  intro pn s σ H xs us Q I r h
  obtain ⟨M, ds, d, dm, ra, e, q⟩ := h
  match ds, ra, e with
  | [], _, e => cases e
  | [x], .cons rx .nil, e =>
    obtain ⟨u, rfl, r1⟩ := vals1 r
    obtain ⟨⟨l1, l2, l3⟩, rfl⟩ := iteS e
    obtain ⟨as, rd, na⟩ := Rp.readsN I hB rx r1
    have fin : ∀ (h' : Heap) (u : Tok) (tk : Tok), (∀ b o, s.heap.get? b = some o → h'.get? b = some o) → EP X pn σ Q (.str x.shown u) { s with heap := h', toks := tk } := fun h' u tk hk => ⟨.str _, H, I.kept hk, ⟨_, rfl⟩, q _ _ (Same.refl _) (.str _ l3)⟩
    cases rd with
    | none => exact PySem.P.repr_of_none (fin s.heap _ _ fun _ _ e => e)
    | bool b => exact PySem.P.repr_of_bool (by cases b <;> exact fin s.heap _ _ fun _ _ e => e)
    | int i t => exact PySem.P.repr_of_int (of_decide_eq_true l1) (fin s.heap _ _ fun _ _ e => e)
    | str z t => exact PySem.P.repr_of_str (fin s.heap _ _ fun _ _ e => e) l3
    | list a b c d => exact repr_of_reads' (.list a b c d) l1 (fun _ => na) free (by omega) (fun _ _ e => e) fin l3
    | tuple a b c d => exact repr_of_reads' (.tuple a b c d) l1 (fun _ => na) free (by omega) (fun _ _ e => e) fin l3
    | dict a b c d f => exact repr_of_reads' (.dict a b c d f) l1 (fun _ => na) free (by omega) (fun _ _ e => e) fin l3
  | _ :: _ :: _, _, e => cases e
end
end Dl
namespace Dl
open PySem PySem.Spec PyProof.Rows L2 Rt
theorem str_ne_no_dict (b : Str) (u : Tok) (l : Addr) (o : Obj) (es : Array DictEntry) (n : Nat) (hc : o.cls = .type "dict") (hd : o.data = .dict es n) : Meets (Builtin.«str.__ne__» { pos := [.str b u, .ref l] }) fun _ R s => s.heap.get? l = some o ∧ R (.ok (.ret .notImplemented)) s :=
  Meets.of_wp fun prog w A R s h => by
    obtain ⟨hp, g, d, tk, os⟩ := s
    obtain ⟨hl, h⟩ := h
    obtain ⟨cls, dd, dat, sl⟩ := o
    cases hc
    cases hd
    unfold Builtin.«str.__ne__»
    refine wpAny_bind (wpAny_bind ?_)
    unfold slotArgs
    refine wpAny_ite_false rfl (wpAny_ite_false rfl (wpAny_pure (wpAny_bind ?_)))
    unfold Builtin.Str.textOf
    refine wpAny_bind (wpAny_pure (wpAny_pure (wpAny_pure (wpAny_bind ?_))))
    unfold asStr?
    refine wpAny_bind (wpAny_load hl (wpAny_pure (wpAny_bind (wpAny_rule (wpAny_pure ⟨_, rfl, h⟩)))))
theorem dict_ne_no {x : Value} {T : String} (hT : isSubtype (.type T) (.type "dict") = pure false) (l : Addr) : Meets (Builtin.«dict.__ne__» { pos := [.ref l, x] }) fun _ R s => s.TypeIs x T ∧ R (.ok (.ret .notImplemented)) s :=
  Meets.of_wp fun prog w A R s h => by
    obtain ⟨hl, h⟩ := h
    unfold Builtin.«dict.__ne__»
    refine wpAny_bind ?_
    unfold Builtin.Dict.dictSlotArgs
    refine wpAny_bind ?_
    unfold Builtin.Dict.notOrdered
    refine wpAny_ite_false rfl (wpAny_pure (wpAny_bind ?_))
    unfold slotArgs
    refine wpAny_ite_false rfl (wpAny_ite_false rfl (wpAny_pure (wpAny_pure (wpAny_bind ?_))))
    unfold isInstance
    refine wpAny_bind (wpAny_typeOf hl (wpAny_of_eq hT (wpAny_ite_true rfl (wpAny_bind (wpAny_rule (wpAny_pure ⟨_, rfl, h⟩))))))
theorem rcNe_dic_str {A : Around} {s : Shared} {l : Addr} {o : Obj} {es : Array DictEntry} {n : Nat} (i : Str) (t : Tok) (h : IsDic s l o es n) (hu : A.units < cLine) : SeqAt.RcNeAt A s (.ref l) (.str i t) true := fun prog w E Q hQ =>
  SeqAt.rc_ne_decline_or (k := false) h.ty (typeIs_str s i t) (by decide) sub_str_dict F.slot_dict_ne F.slot_str_ne_refl
    (fun _ hq => call_meets F.slot_dict_ne h.ty F.entry_dict_ne (F.args_dict_ne_2 _ _) (dict_ne_no sub_str_dict l) ⟨(typeIs_str s i t), hq⟩)
    (fun _ hq => call_meets F.slot_str_ne_refl (typeIs_str s i t) F.entry_str_ne (F.args_str_ne_2 _ _) (str_ne_no_dict i t l o es n h.cls h.dat) ⟨h.get, hq⟩)
    (fun _ hq => wpAny_of_eq rfl hq) (.inr hu) hQ
theorem rcNe_any_str {A : Around} {s : Shared} {x : Value} {d : D} {as : List Addr} (b : Str) (u : Tok) (r : Reads s.heap x d as) (hu : A.units < cLine) : SeqAt.RcNeAt A s x (.str b u) (!PyData.eqv d (.str b)) := by
  cases r with
  | none => exact SeqAt.RcNeAt.none_str b u
  | bool c => exact SeqAt.RcNeAt.bool_str c b u
  | int c t => exact SeqAt.RcNeAt.int_str c t b u
  | str c t => exact SeqAt.RcNeAt.str_str c t b u
  | list g c e _ => exact SeqAt.RcNeAt.list_str b u ⟨_, g, c, _, e⟩ hu
  | tuple g c e _ => exact SeqAt.RcNeAt.tuple_str b u ⟨_, g, c, _, e⟩ hu
  | dict g c e _ _ => exact rcNe_dic_str b u ⟨g, c, e⟩ hu
section
variable {X : Cx}
/-- anything != a text; else as neD -/
def neQ : D → D → Option D
  | a, .str b => some (.bool (!PyData.eqv a (.str b)))
  | a, b => neD a b
theorem o_neQ (hu : X.A.units + 64 < cLine) : OpR X (compareOp .NotEq) (rD neQ) := by
  intro pn s σ H x y v u Q I rx ry h
  obtain ⟨M, a, b, d, dm, ra, rb, e, q⟩ := h
  by_cases hb : ∃ z, b = .str z
  · obtain ⟨z, rfl⟩ := hb
    cases rb
    have e : some (PyData.bool (!PyData.eqv a (.str z))) = some d := by cases a <;> exact e
    cases e
    obtain ⟨t, rfl⟩ := ry
    obtain ⟨as, r1⟩ := Rp.reads I ra rx
    exact rcNe_any_str z t r1 (by omega) _ _ _ _ ⟨.bl _, H, I, rfl, q _ _ (Same.refl _) (.bl _)⟩
  · refine o_ne hu pn s σ H _ _ v u Q I rx ry ⟨M, a, b, d, dm, ra, rb, ?_, q⟩
    cases b <;> first | exact (hb ⟨_, rfl⟩).elim | (cases a <;> exact e)
end
end Dl
namespace Dl
open PySem PySem.Spec PyProof.Rows L2 Rt
/-! ### going through a body, step by step -/
theorem ev_guard {c : Rho → Option Bool} {e : EF} {g : Rho → Option Out} {ρ : Rho} {b : Bool} {d : D} (hc : c ρ = some b) (he : e ρ = some d) : sSeq (sIf c (sRet e) sNil) g ρ = if b = true then some (.rt d) else g ρ := by
  unfold sSeq sIf
  rw [hc]
  cases b with
  | true =>
    show ((sRet e ρ).bind _) = _
    unfold sRet
    rw [he]
    rfl
  | false => rfl
theorem ev_if {c : Rho → Option Bool} {f h g : Rho → Option Out} {ρ : Rho} {b : Bool} (hc : c ρ = some b) : sSeq (sIf c f h) g ρ = if b = true then sSeq f g ρ else sSeq h g ρ := by
  unfold sSeq sIf
  rw [hc]
  cases b <;> rfl
theorem ev_nil {g : Rho → Option Out} {ρ : Rho} : sSeq sNil g ρ = g ρ := rfl
theorem ev_retS {e : EF} {g : Rho → Option Out} {ρ : Rho} {d : D} (he : e ρ = some d) : sSeq (sRet e) g ρ = some (.rt d) := by
  unfold sSeq sRet
  rw [he]
  rfl
theorem ev_asg {p : Pat} {f : EF} {g : Rho → Option Out} {ρ ρ' : Rho} {d : D} (hf : f ρ = some d) (hb : bindP p d ρ = some ρ') : sSeq (sAsg p f) g ρ = g ρ' := by
  unfold sSeq sAsg
  rw [hf]
  show ((bindP p d ρ).map Out.nx).bind _ = _
  rw [hb]
  rfl
theorem ev_seq {f g : Rho → Option Out} {ρ ρ' : Rho} (hf : f ρ = some (.nx ρ')) : sSeq f g ρ = g ρ' := by
  unfold sSeq
  rw [hf]
  rfl
theorem ev_seqR {f g : Rho → Option Out} {ρ : Rho} {d : D} (hf : f ρ = some (.rt d)) : sSeq f g ρ = some (.rt d) := by
  unfold sSeq
  rw [hf]
  rfl
theorem ev_ret {e : EF} {ρ : Rho} {d : D} (he : e ρ = some d) : sRet e ρ = some (.rt d) := by
  unfold sRet
  rw [he]
  rfl
theorem ev_ifR {c : Rho → Option Bool} {f h : Rho → Option Out} {ρ : Rho} {b : Bool} (hc : c ρ = some b) : sIf c f h ρ = if b = true then f ρ else h ρ := by
  unfold sIf
  rw [hc]
  rfl
/-- a loop whose body tells of each item whether to go on -/
theorem ev_for {p : Pat} {body : Rho → Option Out} {t : D → Option D} (I : Rho → Prop) (hb : ∀ x ρ, I ρ → ∃ ρ1, bindP p x ρ = some ρ1 ∧ ((t x = none ∧ ∃ ρ2, I ρ2 ∧ body ρ1 = some (.nx ρ2)) ∨ ∃ d, t x = some d ∧ body ρ1 = some (.rt d))) :
    ∀ (xs : List D) (ρ : Rho), I ρ → (∃ ρ', I ρ' ∧ xs.findSome? t = none ∧ forGo p body xs ρ = some (.nx ρ')) ∨ ∃ d, xs.findSome? t = some d ∧ forGo p body xs ρ = some (.rt d)
  | [], ρ, i => .inl ⟨ρ, i, rfl, rfl⟩
  | x :: xs, ρ, i => by
    obtain ⟨ρ1, e1, h⟩ := hb x ρ i
    rcases h with ⟨ht, ρ2, i2, e2⟩ | ⟨d, ht, e2⟩
    · rcases ev_for I hb xs ρ2 i2 with ⟨ρ', i', e3, e4⟩ | ⟨d, e3, e4⟩
      · refine .inl ⟨ρ', i', by rw [List.findSome?_cons, ht]; exact e3, ?_⟩
        unfold forGo
        rw [e1]
        show (body ρ1).bind _ = _
        rw [e2]
        exact e4
      · refine .inr ⟨d, by rw [List.findSome?_cons, ht]; exact e3, ?_⟩
        unfold forGo
        rw [e1]
        show (body ρ1).bind _ = _
        rw [e2]
        exact e4
    · refine .inr ⟨d, by rw [List.findSome?_cons, ht], ?_⟩
      unfold forGo
      rw [e1]
      show (body ρ1).bind _ = _
      rw [e2]
      rfl
/-- a comprehension that tells one thing of each item -/
theorem ev_lc {i : Nat} {f : EF} {ρ : Rho} {t : D → D} (hi : i < ρ.length) : ∀ (xs : List D), (∀ x ∈ xs, f (ρ.set i (some (.dat x))) = some (t x)) → lcGo (.nm i) oYes f ρ xs = some (xs.map t)
  | [], _ => rfl
  | x :: xs, h => by
    unfold lcGo bindP
    rw [if_pos hi]
    show (f (ρ.set i (some (.dat x)))).bind _ = _
    rw [h x (by simp)]
    show (lcGo _ _ _ _ xs).map _ = _
    rw [ev_lc hi xs fun y hy => h y (by simp [hy])]
    rfl
/-- .. and picks -/
theorem ev_lcIf {i : Nat} {c : Rho → Option Bool} {f : EF} {ρ : Rho} {k : D → Bool} {t : D → D} (hi : i < ρ.length) : ∀ (xs : List D), (∀ x ∈ xs, c (ρ.set i (some (.dat x))) = some (k x)) → (∀ x ∈ xs, k x = true → f (ρ.set i (some (.dat x))) = some (t x)) → lcGo (.nm i) c f ρ xs = some ((xs.filter k).map t)
  | [], _, _ => rfl
  | x :: xs, h, h2 => by
    unfold lcGo bindP
    rw [if_pos hi]
    show (c (ρ.set i (some (.dat x)))).bind _ = _
    rw [h x (by simp)]
    show (if k x = true then _ else _) = _
    have ih := ev_lcIf hi xs (fun y hy => h y (by simp [hy])) (fun y hy => h2 y (by simp [hy]))
    cases e : k x with
    | true =>
      rw [if_pos rfl, h2 x (by simp) e]
      show (lcGo _ _ _ _ xs).map _ = _
      rw [ih, List.filter_cons_of_pos e]
      rfl
    | false =>
      rw [if_neg (by simp), ih, List.filter_cons_of_neg (by simp [e])]
theorem bools_map {α : Type} (t : α → Bool) : ∀ xs : List α, boolsD (xs.map fun x => .bool (t x)) = some (xs.map t)
  | [] => rfl
  | x :: xs => by
    show (boolsD (xs.map fun x => .bool (t x))).map _ = _
    rw [bools_map t xs]
    rfl
theorem okD_all : ∀ (ds : List D), PyData.canLayAll0 ds = true → PyData.depthAll ds + 1 ≤ 64 → PyData.hasDictAll ds = false → ∀ d ∈ ds, okD d = true
  | [], _, _, _ => fun d m => nomatch m
  | x :: xs, c, dp, hd => by
    have c2 := Bool.and_eq_true_iff.mp (show (x.canLay0 && PyData.canLayAll0 xs) = true from c)
    have hd2 := Bool.or_eq_false_iff.mp (show (x.hasDict || PyData.hasDictAll xs) = false from hd)
    have dp2 : max x.depth (PyData.depthAll xs) + 1 ≤ 64 := dp
    intro d m
    rcases List.mem_cons.mp m with e | e
    · subst e
      unfold okD SeqAt.shaped
      rw [hd2.1, c2.1]
      have : d.depth ≤ 64 := by omega
      simp [this]
    · exact okD_all xs c2.2 (by omega) hd2.2 d e
theorem okD.tup {ds : List D} (h : okD (.tuple ds) = true) : ∀ d ∈ ds, okD d = true := by
  obtain ⟨h1, h2⟩ := okD.parts h
  have h2 := Bool.and_eq_true_iff.mp h2
  exact okD_all ds h2.1 (of_decide_eq_true h2.2) h1
theorem dep_all : ∀ (ds : List D) (n : Nat), PyData.depthAll ds ≤ n → ∀ d ∈ ds, d.depth ≤ n
  | [], _, _ => fun d m => nomatch m
  | x :: xs, n, h => by
    have h : max x.depth (PyData.depthAll xs) ≤ n := h
    intro d m
    rcases List.mem_cons.mp m with e | e
    · subst e; omega
    · exact dep_all xs n (by omega) d e
theorem okD.tupD {ds : List D} (h : okD (.tuple ds) = true) : ∀ d ∈ ds, okD d = true ∧ d.depth ≤ 63 := fun d m => by
  refine ⟨okD.tup h d m, ?_⟩
  obtain ⟨_, h2⟩ := okD.parts h
  have h2 := Bool.and_eq_true_iff.mp h2
  have h3 : PyData.depthAll ds + 1 ≤ 64 := of_decide_eq_true h2.2
  exact dep_all ds 63 (by omega) d m
theorem okAll : ∀ (ds : List D), (∀ d ∈ ds, okD d = true ∧ d.depth ≤ 63) → PyData.canLayAll0 ds = true ∧ PyData.depthAll ds ≤ 63 ∧ PyData.hasDictAll ds = false
  | [], _ => ⟨rfl, Nat.zero_le _, rfl⟩
  | x :: xs, h => by
    obtain ⟨a, b, c⟩ := okAll xs fun d m => h d (by simp [m])
    obtain ⟨o, dx⟩ := h x (by simp)
    obtain ⟨o1, o2⟩ := okD.parts o
    have o2 := Bool.and_eq_true_iff.mp o2
    refine ⟨Bool.and_eq_true_iff.mpr ⟨o2.1, a⟩, ?_, Bool.or_eq_false_iff.mpr ⟨o1, c⟩⟩
    show max x.depth (PyData.depthAll xs) ≤ 63
    omega
theorem okL {ds : List D} (h : ∀ d ∈ ds, okD d = true ∧ d.depth ≤ 63) : okD (.list ds) = true := by
  obtain ⟨a, b, c⟩ := okAll ds h
  unfold okD SeqAt.shaped
  rw [show (PyData.list ds).hasDict = PyData.hasDictAll ds from rfl, c, show (PyData.list ds).canLay0 = PyData.canLayAll0 ds from rfl, a, show (PyData.list ds).depth = PyData.depthAll ds + 1 from rfl]
  have : PyData.depthAll ds + 1 ≤ 64 := by omega
  simp [this]
theorem okT {ds : List D} (h : ∀ d ∈ ds, okD d = true ∧ d.depth ≤ 63) : okD (.tuple ds) = true := by
  obtain ⟨a, b, c⟩ := okAll ds h
  unfold okD SeqAt.shaped
  rw [show (PyData.tuple ds).hasDict = PyData.hasDictAll ds from rfl, c, show (PyData.tuple ds).canLay0 = PyData.canLayAll0 ds from rfl, a, show (PyData.tuple ds).depth = PyData.depthAll ds + 1 from rfl]
  have : PyData.depthAll ds + 1 ≤ 64 := by omega
  simp [this]
theorem ok_int (i : Int) : okD (.int i) = true ∧ (PyData.int i).depth ≤ 63 := ⟨rfl, Nat.zero_le _⟩
theorem ok_nil : okD (.list []) = true := okL fun d m => nomatch m
theorem nin_tup {a : D} {ds : List D} (h : okD a = true) (h2 : okD (.tuple ds) = true) : ninD a (.tuple ds) = some (.bool (!ds.any fun z => PyData.eqv z a)) := by
  cases a <;> simp [ninD, h, h2]
theorem in_tup {a : D} {ds : List D} (h : okD a = true) (h2 : okD (.tuple ds) = true) : inD a (.tuple ds) = some (.bool (ds.any fun z => PyData.eqv z a)) := by
  cases a <;> simp [inD, h, h2]
theorem eq_ok {a b : D} (h : okD a = true) (h2 : okD b = true) : eqD a b = some (.bool (PyData.eqv a b)) := by
  simp [eqD, h, h2]
theorem ne_ok {a b : D} (h : okD a = true) (h2 : okD b = true) : neD a b = some (.bool (!PyData.eqv a b)) := by
  simp [neD, h, h2]
theorem add_tup {a b : List D} (h : a.length + b.length ≤ sizeLine) : addD (.tuple a) (.tuple b) = some (.tuple (a ++ b)) := by
  show (if a.length + b.length ≤ sizeLine then some (PyData.tuple (a ++ b)) else none) = _
  rw [if_pos h]
theorem add_lst {a b : List D} (h : a.length + b.length ≤ sizeLine) : addD (.list a) (.list b) = some (.list (a ++ b)) := by
  show (if a.length + b.length ≤ sizeLine then some (PyData.list (a ++ b)) else none) = _
  rw [if_pos h]
theorem ev_call {n : Nat} {g : List D → Option D} {f : Rho → Option (List D)} {ρ : Rho} {ds : List D} {d : D} (hf : f ρ = some ds) (hl : ds.length = n) (hg : g ds = some d) : eCall (gN n g) f ρ = some d := by
  unfold eCall gN
  rw [hf]
  show (if ds.length = n then g ds else none) = _
  rw [if_pos hl, hg]
theorem ev_and {f g : EF} {ρ : Rho} {b : Bool} {d : D} (hf : f ρ = some (.bool b)) (hg : b = true → g ρ = some d) (h0 : b = false → d = .bool false) : eAnd f g ρ = some d := by
  unfold eAnd
  rw [hf]
  cases b with
  | true => exact hg rfl
  | false => rw [h0 rfl]; rfl
theorem ev_oOr {f g : Rho → Option Bool} {ρ : Rho} {b : Bool} (hf : f ρ = some b) : oOr f g ρ = if b = true then some true else g ρ := by
  unfold oOr
  rw [hf]
  rfl
theorem ev_oAnd {f g : Rho → Option Bool} {ρ : Rho} {b : Bool} (hf : f ρ = some b) : oAnd f g ρ = if b = true then g ρ else some false := by
  unfold oAnd
  rw [hf]
  rfl
theorem ev_not {f : Rho → Option Bool} {ρ : Rho} {b : Bool} (hf : f ρ = some b) : oNot f ρ = some (!b) := by
  unfold oNot
  rw [hf]
  rfl
theorem ev_oB {f : EF} {ρ : Rho} {b : Bool} (hf : f ρ = some (.bool b)) : oB f ρ = some b := by
  unfold oB
  rw [hf]
  rfl
theorem ev_lcE {μ : Bool} {vs : List Nat} {it : Rho → Option (List D)} {p : Pat} {c : Rho → Option Bool} {f : EF} {ρ : Rho} {items res : List D} (hit : it ρ = some items) (hl : lcGo p c f (wipeR (shutR μ ρ) vs) items = some res) : eLc μ vs it p c f ρ = some (.list res) := by
  unfold eLc
  rw [hit]
  show (lcGo p c f (wipeR (shutR μ ρ) vs) items).map PyData.list = _
  rw [hl]
  rfl
theorem ev_all {μ : Bool} {vs : List Nat} {it : Rho → Option (List D)} {p : Pat} {c : Rho → Option Bool} {f : EF} {ρ : Rho} {items : List D} {α : Type} {xs : List α} {t : α → Bool} (hit : it ρ = some items) (hl : lcGo p c f (wipeR (shutR μ ρ) vs) items = some (xs.map fun x => .bool (t x))) : eCall allD (aCons (eLc μ vs it p c f) aNil) ρ = some (.bool (xs.all t)) := by
  unfold eCall aCons
  rw [ev_lcE hit hl]
  show (boolsD _).map _ = _
  rw [bools_map]
  show some (PyData.bool _) = _
  rw [List.all_map]
  rfl
theorem ev_any {μ : Bool} {vs : List Nat} {it : Rho → Option (List D)} {p : Pat} {c : Rho → Option Bool} {f : EF} {ρ : Rho} {items : List D} {α : Type} {xs : List α} {t : α → Bool} (hit : it ρ = some items) (hl : lcGo p c f (wipeR (shutR μ ρ) vs) items = some (xs.map fun x => .bool (t x))) : eCall anyD (aCons (eLc μ vs it p c f) aNil) ρ = some (.bool (xs.any t)) := by
  unfold eCall aCons
  rw [ev_lcE hit hl]
  show (boolsD _).map _ = _
  rw [bools_map]
  show some (PyData.bool _) = _
  rw [List.any_map]
  rfl
end Dl
namespace Dl
open PySem PySem.Spec PyProof.Rows L2 Rt
theorem ev_e2 {g : D → D → Option D} {f1 f2 : EF} {ρ : Rho} {a b d : D} (h1 : f1 ρ = some a) (h2 : f2 ρ = some b) (hg : g a b = some d) : e2 g f1 f2 ρ = some d := by
  unfold e2
  rw [h1]
  show (f2 ρ).bind _ = _
  rw [h2]
  exact hg
theorem ev_itG {g : List D → Option (List D)} {f : Rho → Option (List D)} {ρ : Rho} {ds r : List D} (hf : f ρ = some ds) (hg : g ds = some r) : itG g f ρ = some r := by
  unfold itG
  rw [hf]
  exact hg
theorem ran2_ok {i j : Int} (h1 : -(2 ^ 62) ≤ i) (h2 : i < 2 ^ 62) (h3 : -(2 ^ 62) ≤ j) (h4 : j < 2 ^ 62) (h5 : j - i < 2 ^ 20) : ran2D [.int i, .int j] = some (rgD i (j - i).toNat) := if_pos ⟨h1, h2, h3, h4, h5⟩
theorem ran1_ok {j : Int} (h3 : -(2 ^ 62) ≤ j) (h5 : j < 2 ^ 20) : ran1D [.int j] = some (rgD 0 j.toNat) := if_pos ⟨h3, h5⟩
theorem ev_forC {p : Pat} {body : Rho → Option Out} {x : D} {xs : List D} {ρ ρ1 ρ2 : Rho} (e1 : bindP p x ρ = some ρ1) (e2 : body ρ1 = some (.nx ρ2)) : forGo p body (x :: xs) ρ = forGo p body xs ρ2 := by
  show (bindP p x ρ).bind _ = _
  rw [e1]
  show (body ρ1).bind _ = _
  rw [e2]
  rfl
theorem ev_forR {p : Pat} {body : Rho → Option Out} {x : D} {xs : List D} {ρ ρ1 : Rho} {d : D} (e1 : bindP p x ρ = some ρ1) (e2 : body ρ1 = some (.rt d)) : forGo p body (x :: xs) ρ = some (.rt d) := by
  show (bindP p x ρ).bind _ = _
  rw [e1]
  show (body ρ1).bind _ = _
  rw [e2]
  rfl
theorem ev_forS {it : Rho → Option (List D)} {p : Pat} {body : Rho → Option Out} {ρ : Rho} {items : List D} {o : Option Out} (hit : it ρ = some items) (h : forGo p body items ρ = o) : sFor it p body ρ = o := by
  unfold sFor
  rw [hit]
  exact h
end Dl
namespace Dl
open PySem PySem.Spec PyProof.Rows L2 Rt
/-! ### data that is neither deep nor long -/
def Bd (m : Nat) : Nat → D → Prop
  | 0, _ => False
  | n + 1, .tuple ds => ds.length ≤ 70 + m ∧ ∀ d ∈ ds, Bd m n d
  | n + 1, .list ds => ds.length ≤ 70 + m ∧ ∀ d ∈ ds, Bd m n d
  | _ + 1, .dict kvs => kvs = []
  | _ + 1, .int i => i.natAbs ≤ 10 ^ 29 + 100 * m
  | _ + 1, .str z => PyData.strOk z = true ∧ z.length ≤ 20 + 20 * m
  | _ + 1, .none => True
  | _ + 1, .bool _ => True
theorem Bd.up {m m' : Nat} (hm : m ≤ m') : ∀ {n n' : Nat} {d : D}, Bd m n d → n ≤ n' → Bd m' n' d
  | 0, _, _, h, _ => h.elim
  | n + 1, 0, _, _, l => absurd l (by omega)
  | n + 1, n' + 1, .tuple ds, h, l => ⟨Nat.le_trans h.1 (by omega), fun d hd => Bd.up hm (h.2 d hd) (by omega)⟩
  | n + 1, n' + 1, .list ds, h, l => ⟨Nat.le_trans h.1 (by omega), fun d hd => Bd.up hm (h.2 d hd) (by omega)⟩
  | n + 1, n' + 1, .dict kvs, h, l => h
  | n + 1, n' + 1, .int i, h, l => Nat.le_trans (show i.natAbs ≤ 10 ^ 29 + 100 * m from h) (by omega)
  | n + 1, n' + 1, .str z, h, l => ⟨h.1, Nat.le_trans h.2 (by omega)⟩
  | n + 1, n' + 1, .none, h, l => trivial
  | n + 1, n' + 1, .bool _, h, l => trivial
theorem Bd.gq {m : Nat} (hm : m ≤ 100) : ∀ {n : Nat} {d : D}, Bd m n d → Dl.gq d = true
  | 0, _, h => h.elim
  | n + 1, .tuple ds, h => Bool.and_eq_true_iff.mpr ⟨decide_eq_true (Nat.le_trans h.1 (by omega)), gqAll.of fun d hd => Bd.gq hm (h.2 d hd)⟩
  | n + 1, .list ds, h => rfl
  | n + 1, .dict kvs, h => rfl
  | n + 1, .int i, h => rfl
  | n + 1, .str z, h => h.1
  | n + 1, .none, h => rfl
  | n + 1, .bool _, h => rfl
theorem all_show : ∀ {ds : List D}, (∀ d ∈ ds, d.showable = true) → PyData.showableAll ds = true
  | [], _ => rfl
  | d :: r, h => by
    show (d.showable && PyData.showableAll r) = true
    rw [h d (by simp), all_show fun x hx => h x (by simp [hx])]
    rfl
theorem all_depth {k : Nat} : ∀ {ds : List D}, (∀ d ∈ ds, d.depth ≤ k) → PyData.depthAll ds ≤ k
  | [], _ => Nat.zero_le _
  | d :: r, h => Nat.max_le.mpr ⟨h d (by simp), all_depth fun x hx => h x (by simp [hx])⟩
theorem all_leaves {B : Nat} : ∀ {ds : List D}, (∀ d ∈ ds, d.leavesShort B = true) → PyData.leavesShortAll B ds = true
  | [], _ => rfl
  | d :: r, h => by
    show (d.leavesShort B && PyData.leavesShortAll B r) = true
    rw [h d (by simp), all_leaves fun x hx => h x (by simp [hx])]
    rfl
theorem big30 {i : Int} {m : Nat} (hm : m ≤ 100) (h : i.natAbs ≤ 10 ^ 29 + 100 * m) : i.natAbs < 10 ^ 30 :=
  Nat.lt_of_le_of_lt h (Nat.lt_of_le_of_lt (Nat.add_le_add_left (Nat.mul_le_mul_left 100 hm) _) (by decide))
theorem log30 {i : Int} (h : i.natAbs < 10 ^ 30) : i.natAbs.log2 < 100 := by
  by_cases z : i.natAbs = 0
  · rw [z]; decide
  · exact (Nat.log2_lt z).mpr (Nat.lt_trans h (by decide))
theorem Bd.lim {m : Nat} (hm : m ≤ 100) : ∀ {n : Nat} {d : D}, Bd m n d → d.showable = true ∧ d.depth ≤ n ∧ d.leavesShort 40 = true
  | 0, _, h => h.elim
  | n + 1, .tuple ds, h => ⟨all_show fun d hd => (Bd.lim hm (h.2 d hd)).1, Nat.succ_le_succ (all_depth fun d hd => (Bd.lim hm (h.2 d hd)).2.1), all_leaves fun d hd => (Bd.lim hm (h.2 d hd)).2.2⟩
  | n + 1, .list ds, h => ⟨all_show fun d hd => (Bd.lim hm (h.2 d hd)).1, Nat.succ_le_succ (all_depth fun d hd => (Bd.lim hm (h.2 d hd)).2.1), all_leaves fun d hd => (Bd.lim hm (h.2 d hd)).2.2⟩
  | n + 1, .dict kvs, h => by
    cases (show kvs = [] from h)
    exact ⟨rfl, by show 0 + 1 ≤ n + 1; omega, rfl⟩
  | n + 1, .int i, h => by
    have h1 := big30 hm h
    refine ⟨decide_eq_true (Nat.lt_trans (log30 h1) (by decide)), Nat.zero_le _, decide_eq_true ?_⟩
    have := int_text_length_le10 (a := i) (k := 30) (by decide) h1
    show (Str.ofString (toString i)).length ≤ 40
    rw [PySem.ofString_length]
    omega
  | n + 1, .str z, h => ⟨rfl, Nat.zero_le _, by
    have o := h.1
    unfold PyData.strOk at o
    rw [Array.all_eq_true'] at o
    show (z.cps.toList.all fun c => decide (c < 16 ^ 8)) = true
    rw [List.all_eq_true]
    intro c hc
    have := of_decide_eq_true (o c (Array.mem_toList_iff.mp hc))
    exact decide_eq_true (Nat.lt_trans this (by decide))⟩
  | n + 1, .none, h => ⟨rfl, Nat.zero_le _, rfl⟩
  | n + 1, .bool _, h => ⟨rfl, Nat.zero_le _, rfl⟩
/-- it can be shown -/
theorem Bd.repr {m n : Nat} {d : D} (h : Bd m n d) (hm : m ≤ 100) (hn : n ≤ 60) (hw : d.weight ≤ 200000) : reprD [d] = some (.str d.shown) := by
  obtain ⟨a, b, c⟩ := h.lim hm
  have := PyData.shown_le 40 (by decide) d c
  refine if_pos ⟨a, by omega, Nat.le_trans this ?_⟩
  exact Nat.le_trans (show (40 + 2) * d.weight + 40 ≤ 8400040 by omega) (by decide)
/-! ### weights -/
theorem wAll_app : ∀ (a b : List D), PyData.weightAll (a ++ b) = PyData.weightAll a + PyData.weightAll b
  | [], b => (Nat.zero_add _).symm
  | x :: a, b => by
    show x.weight + 1 + PyData.weightAll (a ++ b) = x.weight + 1 + PyData.weightAll a + PyData.weightAll b
    rw [wAll_app a b]
    omega
theorem wAll_mem : ∀ {a : List D} {x : D}, x ∈ a → x.weight + 1 ≤ PyData.weightAll a
  | y :: a, x, h => by
    show x.weight + 1 ≤ y.weight + 1 + PyData.weightAll a
    rcases List.mem_cons.mp h with e | e
    · rw [e]; omega
    · have := wAll_mem e
      omega
theorem wAll_drop (a : List D) (n : Nat) : PyData.weightAll (a.drop n) ≤ PyData.weightAll a := by
  have := wAll_app (a.take n) (a.drop n)
  rw [List.take_append_drop] at this
  omega
theorem wAll_take (a : List D) (n : Nat) : PyData.weightAll (a.take n) ≤ PyData.weightAll a := by
  have := wAll_app (a.take n) (a.drop n)
  rw [List.take_append_drop] at this
  omega
theorem wAll_rev : ∀ a : List D, PyData.weightAll a.reverse = PyData.weightAll a
  | [] => rfl
  | x :: a => by
    rw [List.reverse_cons, wAll_app, wAll_rev a]
    show PyData.weightAll a + (x.weight + 1 + 0) = x.weight + 1 + PyData.weightAll a
    omega
theorem wAll_le {c : Nat} : ∀ {a : List D}, (∀ x ∈ a, x.weight ≤ c) → PyData.weightAll a ≤ a.length * (c + 1)
  | [], _ => Nat.zero_le _
  | x :: a, h => by
    have h1 := h x (by simp)
    have h2 := wAll_le (c := c) (a := a) fun y hy => h y (by simp [hy])
    show x.weight + 1 + PyData.weightAll a ≤ (a.length + 1) * (c + 1)
    rw [Nat.add_mul, Nat.one_mul]
    omega
theorem wAll_set {a : List D} {i : Nat} {y x : D} (hi : a[i]? = some x) : PyData.weightAll (a.set i y) + x.weight = PyData.weightAll a + y.weight := by
  have hl := (List.getElem?_eq_some_iff.mp hi).1
  have e1 : a.set i y = a.take i ++ y :: a.drop (i + 1) := by rw [List.set_eq_take_append_cons_drop, if_pos hl]
  have e2 : a = a.take i ++ x :: a.drop (i + 1) := by
    obtain ⟨_, e⟩ := List.getElem?_eq_some_iff.mp hi
    rw [← e]
    simp
  have w1 := wAll_app (a.take i) (y :: a.drop (i + 1))
  have w2 := wAll_app (a.take i) (x :: a.drop (i + 1))
  rw [← e1] at w1
  rw [← e2] at w2
  have w3 : PyData.weightAll (y :: a.drop (i + 1)) = y.weight + 1 + PyData.weightAll (a.drop (i + 1)) := rfl
  have w4 : PyData.weightAll (x :: a.drop (i + 1)) = x.weight + 1 + PyData.weightAll (a.drop (i + 1)) := rfl
  omega
theorem wInt {i : Int} (h : i.natAbs < 10 ^ 30) : (PyData.int i).weight ≤ 100 := by
  show (if i == 0 then 0 else i.natAbs.log2 + 1) ≤ 100
  have := log30 h
  split <;> omega
/-! ### odd things, and things bent -/
def OddP (d : D) : Prop := (∀ m, Bd m 2 d) ∧ d.weight ≤ 100
def SpP (x d : D) : Prop := (∀ m k, m ≤ 5 → Bd m k x → Bd (m + 1) (k + 2) d) ∧ d.weight ≤ 2 * x.weight + 200
theorem OddP.sp {x d : D} (h : OddP d) : SpP x d := ⟨fun m k _ _ => (h.1 (m + 1)).up (Nat.le_refl _) (by omega), by have := h.2; omega⟩
theorem cut_last {α : Type} (xs : List α) : cutD xs (some (-1)) none = xs.drop (xs.length - 1) := by
  unfold cutD
  rw [HT.sIx_none]
  have : HT.sIx xs.length 0 (some (-1)) = xs.length - 1 := by
    show (if (-1 : Int) < 0 then ((-1 : Int) + (xs.length : Int)).toNat else min (-1 : Int).toNat xs.length) = _
    rw [if_pos (by decide)]
    omega
  rw [this, List.take_of_length_le (by rw [List.length_drop]; omega)]
theorem sp_drop {xs : List D} : SpP (.tuple xs) (.tuple (xs.drop 1)) := ⟨fun m k _ h => by
  cases k with
  | zero => exact h.elim
  | succ k => exact ⟨by have := h.1; rw [List.length_drop]; omega, fun d hd => (h.2 d (List.mem_of_mem_drop hd)).up (by omega) (by omega)⟩, by
  show PyData.weightAll _ ≤ 2 * PyData.weightAll xs + 200
  have := wAll_drop xs 1
  omega⟩
theorem sp_more {xs : List D} : SpP (.tuple xs) (.tuple (xs ++ xs.drop (xs.length - 1))) := ⟨fun m k _ h => by
  cases k with
  | zero => exact h.elim
  | succ k => exact ⟨by have := h.1; rw [List.length_append, List.length_drop]; omega, fun d hd => by
      rcases List.mem_append.mp hd with hd | hd
      · exact (h.2 d hd).up (by omega) (by omega)
      · exact (h.2 d (List.mem_of_mem_drop hd)).up (by omega) (by omega)⟩, by
  show PyData.weightAll _ ≤ 2 * PyData.weightAll xs + 200
  rw [wAll_app]
  have := wAll_drop xs (xs.length - 1)
  omega⟩
theorem sp_rev {xs : List D} : SpP (.tuple xs) (.tuple xs.reverse) := ⟨fun m k _ h => by
  cases k with
  | zero => exact h.elim
  | succ k => exact ⟨by have := h.1; rw [List.length_reverse]; omega, fun d hd => (h.2 d (List.mem_reverse.mp hd)).up (by omega) (by omega)⟩, by
  show PyData.weightAll _ ≤ 2 * PyData.weightAll xs + 200
  rw [wAll_rev]
  omega⟩
theorem sp_list {xs : List D} : SpP (.tuple xs) (.list xs) := ⟨fun m k _ h => by
  cases k with
  | zero => exact h.elim
  | succ k => exact ⟨by have := h.1; omega, fun d hd => (h.2 d hd).up (by omega) (by omega)⟩, by
  show PyData.weightAll _ ≤ 2 * PyData.weightAll xs + 200
  omega⟩
theorem sp_set {xs : List D} {i : Nat} {x y : D} (hi : xs[i]? = some x) (h : SpP x y) : SpP (.tuple xs) (.tuple (xs.set i y)) := ⟨fun m k hm hb => by
  cases k with
  | zero => exact hb.elim
  | succ k => exact ⟨by have := hb.1; rw [List.length_set]; omega, fun d hd => by
      rcases List.mem_or_eq_of_mem_set hd with hd | rfl
      · exact (hb.2 d hd).up (by omega) (by omega)
      · exact h.1 m k hm (hb.2 x (List.mem_of_getElem? hi))⟩, by
  show PyData.weightAll _ ≤ 2 * PyData.weightAll xs + 200
  have h1 := wAll_set (y := y) hi
  have h2 := wAll_mem (List.mem_of_getElem? hi)
  have h3 := h.2
  omega⟩
theorem strOk_iff {z : Str} : PyData.strOk z = true ↔ ∀ c ∈ z.cps.toList, c < 1114112 := by
  unfold PyData.strOk
  rw [Array.all_eq_true']
  constructor
  · intro h c hc
    exact of_decide_eq_true (h c (Array.mem_toList_iff.mp hc))
  · intro h c hc
    exact decide_eq_true (h c (Array.mem_toList_iff.mpr hc))
theorem s_app (x y : Str) : (x ++ y).cps.toList = x.cps.toList ++ y.cps.toList := by
  show (x.cps ++ y.cps).toList = _
  rw [Array.toList_append]
theorem s_len (x : Str) : x.length = x.cps.toList.length := by
  show x.cps.size = _
  rw [Array.length_toList]
theorem sp_str {x y : Str} (h : ∀ c ∈ y.cps.toList, c ∈ x.cps.toList ∨ c < 1114112) (hl : y.length ≤ x.length + 8) : SpP (.str x) (.str y) := ⟨fun m k _ hb => by
  cases k with
  | zero => exact hb.elim
  | succ k => exact ⟨strOk_iff.mpr fun c hc => (h c hc).elim (strOk_iff.mp hb.1 c) id, by have := hb.2; omega⟩, by
  show y.length ≤ 2 * x.length + 200
  omega⟩
theorem sp_int {x : D} {i j : Int} (hx : ∀ m k, m ≤ 5 → Bd m k x → Bd m k (.int i)) (h0 : i.natAbs < 10 ^ 30) (hj : j.natAbs ≤ i.natAbs + 20) : SpP x (.int j) := ⟨fun m k hm hb => by
  have := hx m k hm hb
  cases k with
  | zero => exact hb.elim
  | succ k => exact Nat.le_trans hj (Nat.le_trans (Nat.add_le_add_right (show i.natAbs ≤ 10 ^ 29 + 100 * m from this) 20) (by omega)), by
  have e : j.natAbs < 2 ^ 100 := Nat.lt_of_le_of_lt hj (Nat.lt_trans (Nat.add_lt_add_right h0 20) (by decide))
  have : (PyData.int j).weight ≤ 200 := by
    show (if j == 0 then 0 else j.natAbs.log2 + 1) ≤ 200
    split
    · omega
    · by_cases z : j.natAbs = 0
      · rw [z]; decide
      · have := (Nat.log2_lt z).mpr e
        omega
  omega⟩
theorem sp_bool {x : D} {b : Bool} : SpP x (.bool b) := ⟨fun m k _ _ => trivial, Nat.zero_le _⟩
/-! ### readings -/
theorem wIfTail {c : WP Bool} {f r : WP Out} {ρ : Rho} {b : Nat} {Q : Out → Nat → Prop} (B : Nat → Prop) (hr : ∀ b', B b' → r.w ρ b' Q) (h : (∀ b', B b' → r.w ρ b' Q) → c.w ρ b fun k b1 => if k = true then (swSeq f r).w ρ b1 Q else r.w ρ b1 Q) : (swSeq (swIf c f swNil) r).w ρ b Q := by
  refine c.m (fun k b1 z => ?_) (h hr)
  cases k with
  | true => exact z
  | false => exact z
end Dl
namespace Dl
open PySem PySem.Spec PyProof.Rows L2 Rt
/-! ### a list of one's own that is only read from now on -/
theorem Mu.frz {M0 : Addr → Prop} {σ : L2.St} {ρ : Rho} {i : Nat} {d : D} (a : Addr) (m : Mu true M0 σ (ρ.set i (some (.dat d))) a) : Mu true M0 σ ρ a := by
  rcases m with m | ⟨_, j, ds, e1, e2⟩
  · exact .inl m
  · rcases set_get e1 with ⟨_, z⟩ | ⟨_, z⟩
    · cases z
    · exact .inr ⟨rfl, j, ds, z, e2⟩
theorem Rn.frz {g : Pl} {M0 : Addr → Prop} {H0 H : Hp} {σ : L2.St} {ρ : Rho} {b : Nat} {i : Nat} {ds : List D} (R : Rn g M0 H0 H σ ρ b) (ei : ρ[i]? = some (some (.own ds))) : Rn g M0 H0 H σ (ρ.set i (some (.dat (.list ds)))) b := by
  have sh : ∀ a, Mu true M0 σ (ρ.set i (some (.dat (.list ds)))) a → Mu true M0 σ ρ a ∨ H a = none := fun a m => .inl (Mu.frz a m)
  refine ⟨R.kp, R.dom0, R.dom, R.pl, R.iv, by rw [List.length_set]; exact R.len, fun j d' e => ?_, fun j ds' e => ?_, fun j w e => ?_, fun j e => ?_, fun j k a c p e1 e2 e3 e4 => ?_⟩
  · rcases set_get e with ⟨rfl, e9⟩ | ⟨n, e⟩
    · cases e9
      obtain ⟨p, vs, x, y, z, l, w⟩ := R.own i ds ei
      refine ⟨.ref p, x, .lst y (fun m => ?_) l (w.reM sh)⟩
      rcases m with m | ⟨_, j, ds', f1, f2⟩
      · exact R.dom0 p m z
      · rcases set_get f1 with ⟨_, q⟩ | ⟨n, q⟩
        · cases q
        · exact n (R.inj i j ds ds' p ei q x f2)
    · obtain ⟨w, x, y⟩ := R.dat j d' e
      exact ⟨w, x, y.reM sh⟩
  · rcases set_get e with ⟨_, z⟩ | ⟨_, z⟩
    · cases z
    · obtain ⟨p, vs, x, y, z, l, w⟩ := R.own j ds' z
      exact ⟨p, vs, x, y, z, l, w.reM sh⟩
  · rcases set_get e with ⟨_, z⟩ | ⟨_, z⟩
    · cases z
    · exact R.raw j w z
  · rcases set_get e with ⟨_, z⟩ | ⟨_, z⟩
    · cases z
    · exact R.pool j z
  · rcases set_get e1 with ⟨_, z⟩ | ⟨_, f1⟩
    · cases z
    rcases set_get e2 with ⟨_, z⟩ | ⟨_, f2⟩
    · cases z
    exact R.inj j k a c p f1 f2 e3 e4
def swFrz (i : Nat) (f : WP Out) : WP Out := ⟨fun ρ b Q => ∃ ds, ρ[i]? = some (some (.own ds)) ∧ f.w (ρ.set i (some (.dat (.list ds)))) b Q, fun h ⟨ds, e, z⟩ => ⟨ds, e, f.m h z⟩⟩
section
variable {X : Cx} {K : PySem.W.Frag}
theorem nS_frz {st : Stmt} {i : Nat} {f : WP Out} (h : PS X st (tSn f)) : PS X st (tSn (swFrz i f)) := h.wk fun Dn σ H q => by
  obtain ⟨g, M0, H0, ρ, b, R, ds, e, q⟩ := q
  exact ⟨g, M0, H0, _, b, R.frz e, f.m (fun o b' p => PostN.from ⟨.refl, fun a m => .inl (Mu.frz a m)⟩ p) q⟩
/-- a loop each of whose turns costs so much -/
theorem forN_cost {p : Pat} {body : WP Out} {Q : Out → Nat → Prop} (N c : Nat) (I : Nat → Rho → Prop) : ∀ (items : List D) (k : Nat) (ρ : Rho) (b : Nat), k + items.length ≤ N → I k ρ → items.length * c ≤ b → (∀ x ∈ items, ∀ k ρ b, k < N → I k ρ → c ≤ b → ∃ ρ1, bindP p x ρ = some ρ1 ∧ ∀ Q' : Out → Nat → Prop, (∀ ρ2 b2, I (k + 1) ρ2 → b ≤ b2 + c → Q' (.nx ρ2) b2) → body.w ρ1 b Q') → (∀ ρ' b', I (k + items.length) ρ' → b ≤ b' + items.length * c → Q (.nx ρ') b') → forN p body items ρ b Q
  | [], k, ρ, b, _, i, _, _, q => q ρ b i (by simp)
  | x :: xs, k, ρ, b, hN, i, hb, hs, q => by
    have e : (x :: xs).length * c = xs.length * c + c := by rw [List.length_cons, Nat.add_mul, Nat.one_mul]
    rw [e] at hb q
    rw [List.length_cons] at hN
    obtain ⟨ρ1, e1, hw⟩ := hs x (by simp) k ρ b (by omega) i (by omega)
    refine ⟨ρ1, e1, hw _ fun ρ2 b2 i2 h2 => forN_cost N c I xs (k + 1) ρ2 b2 (by omega) i2 (by omega) (fun y hy => hs y (by simp [hy])) fun ρ' b' i' h' => q ρ' b' ?_ (by omega)⟩
    rw [List.length_cons, show k + (xs.length + 1) = k + 1 + xs.length by omega]
    exact i'
/-- texts told apart -/
def neS : D → D → Option D
  | .str a, .str b => some (.bool (!(a == b)))
  | _, _ => none
theorem o_neS (hu : X.A.units + 64 < cLine) : OpR X (compareOp .NotEq) (rD neS) := by
  intro pn s σ H x y v u Q I rx ry h
  obtain ⟨M, a, b, d, dm, ra, rb, e, q⟩ := h
  cases ra <;> (try (cases rb <;> cases e; done))
  cases rb <;> (try (cases e; done))
  cases e
  obtain ⟨t, rfl⟩ := rx
  obtain ⟨t', rfl⟩ := ry
  exact SeqAt.RcNeAt.str_str _ _ _ _ _ _ _ _ ⟨.bl _, H, I, rfl, q _ _ (Same.refl _) (.bl _)⟩
end
/-! ### the law itself, where the table of modules is known to stand -/
theorem lawG2 {P : Program} {w : World} {K : PySem.W.Frag} {mg mb : Str → Option Value} {k : Nat} {fa a : Addr} {fd : FuncData} {x : Str} {sp : Sp} {s0 : Shared} {us : List Value} {ns : List Int}
    (inK : K.In s0.heap) (gl : s0.heap.Ns mainGlobals mg) (bl : s0.heap.Ns builtinsNs mb) (bb : ∀ x : Str, x ≠ "__name__" → mb x = bootBuiltins x) (nl : s0.heap.NoLimit) (sm : ∃ mm, s0.heap.Ns sysModules mm) (ng : s0.gens = #[])
    (sc : s0.heap.get? a = some { cls := .type "list", data := .seq us.toArray }) (hin : IntsAre us ns) (short : ns.length ≤ sizeLine) (room : Room k callerA)
    (F : ∀ base : Heap, K.In base → base.Ns mainGlobals mg → (∃ o, base.get? sysModules = some o) → FnG P w K mg base k fa fd [x] sp) (bd : ∀ (s : Shared) (u : Value), BindsTo s fd ⟨[u], []⟩ [(x, u)])
    (hsp : ∀ H : Hp, Only H → SqL K H a (ns.map V.int) → sp [.ref a] H (fun v _ => v = .bl true) E0) :
    codeAny (model P w) callerA (.call (.ref fa) ⟨[.ref a], []⟩) (fun r s2 => r = .ok (.ret (.bool true)) ∧ OldK s0.heap s2.heap ∧ s2.os = s0.os ∧ AllBare s2.gens) s0 := by
  have rel := vals_ints hin
  have main : ∀ H : Hp, Only H → SqL K H a (ns.map V.int) → HOk P w H s0.heap → (∀ b u, H b = some u → b = a ∧ K.lookup a = none) →
      codeAny (model P w) callerA (.call (.ref fa) ⟨[.ref a], []⟩) (fun r s2 => r = .ok (.ret (.bool true)) ∧ OldK s0.heap s2.heap ∧ s2.os = s0.os ∧ AllBare s2.gens) s0 := by
    intro H only seq hok just
    have free : ∀ {b : Addr}, (b = a → K.lookup a = none → False) → H b = none := fun {b} no => by
      cases z : H b with
      | none => rfl
      | some u => exact (no (just b u z).1 (just b u z).2).elim
    have spaces : ∀ {b : Addr} {m : Str → Option Value}, s0.heap.Ns b m → (hidT s0.heap H).Ns b m := fun {b m} h => by
      obtain ⟨o, es, ep, e, d, r⟩ := h
      refine ⟨o, es, ep, hidT_get e (free fun z _ => ?_), d, r⟩
      subst z
      rw [sc] at e
      cases e
      cases d
    have inB : K.In (hidT s0.heap H) := fun b o e => hidT_get (inK b o e) (free fun z n => by
      subst z
      rw [n] at e
      cases e)
    have md : Mod K mg (hidT s0.heap H) := by
      obtain ⟨mc, n1, n2⟩ := nl
      exact ⟨inB, spaces gl, ⟨mb, spaces bl, bb⟩, ⟨mc, spaces n1, n2⟩⟩
    have hsm : ∃ o, (hidT s0.heap H).get? sysModules = some o := by
      obtain ⟨mm, h⟩ := sm
      obtain ⟨o, _, _, e, _⟩ := spaces h
      exact ⟨o, e⟩
    have en : Env0 P w K mg (hidT s0.heap H) callerA [] s0 H := ⟨rfl, md, fun b o e => of_hidT e, Nat.le_of_eq (hidT_size _ _), trivial, (fun b z => nomatch (show b ∈ ([] : List Addr) from z)), hok, .of_eq ng⟩
    refine codeAny_mono ((F _ inB (spaces gl) hsm).goes callerA [] s0 H ⟨[.ref a], []⟩ [.ref a] [.ref a] _ _ room rfl en (bd s0 (.ref a)) (.cons rfl .nil) (hsp H only seq)) fun r s2 h => ?_
    match r, h with
    | .error e, h => exact (h : False).elim
    | .ok .next, h => exact (h : False).elim
    | .ok .brk, h => exact (h : False).elim
    | .ok .cont, h => exact (h : False).elim
    | .ok (.ret u), h =>
      obtain ⟨v, H2, os, bare, un, hok2, rv, rfl⟩ := h
      obtain rfl : u = Value.bool true := rv
      refine ⟨rfl, OldK.of_keep fun b o e => ?_, os, bare⟩
      rcases only b with z | ⟨ob, xs, z⟩
      · exact un.keep b o e z (fun m => nomatch (show b ∈ ([] : List Addr) from m)) (fun m => nomatch m)
      · have e1 := (hok b _ z).1
        have e2 := (hok2 b _ (un.frzs b ob _ z)).1
        rw [e] at e1
        cases e1
        exact e2
  cases own : K.lookup a with
  | some o =>
    have e := inK a o own
    rw [sc] at e
    cases e
    exact main (fun _ => none) (fun _ => .inl rfl) (.inr ⟨_, us.toArray, _, own, rfl, rfl, rfl, by rw [List.size_toArray, hin.length]; exact short, by simpa using rel⟩) (fun b u z => nomatch z) (fun b u z => nomatch z)
  | none =>
    refine main (fun b => if b = a then some (.frz { cls := .type "list", data := .seq us.toArray } (.lst (ns.map V.int))) else none) (fun b => ?_) (.inl (.inr ⟨{ cls := .type "list", data := .seq us.toArray }, if_pos rfl⟩)) (fun b u z => ?_) (fun b u z => ?_)
    · by_cases e : b = a
      · exact .inr ⟨_, _, if_pos e⟩
      · exact .inl (if_neg e)
    · by_cases e : b = a
      · have z2 := (if_pos e).symm.trans z
        cases z2
        subst e
        exact ⟨sc, by rw [List.length_map]; exact short, us, _, rel, sc⟩
      · exact nomatch ((if_neg e).symm.trans z)
    · by_cases e : b = a
      · exact ⟨e, own⟩
      · exact nomatch ((if_neg e).symm.trans z)
theorem walk_G2 {l : PySem.W.OpenLaw} {n k : Nat} {q : Program} {loose : List Str} {XP : (Str → Option Value) → Heap → Prop} {YP : World → Heap → Prop} {d : DefRec} {K : Params → PySem.W.Frag} {sp : World → Sp} {x : Str}
    (hi : importsNone q = true) (most : l.most = some n) (n2 : n ≤ sizeLine) (nd : d.params.defaults = []) (room : Room k callerA) (hY : ∀ (w : World) (h : Heap), YP w h → (K w.params).In h)
    (F : ∀ (w : World) (mg : Str → Option Value) (fa : Addr) (h : Heap), (K w.params).In h → h.Ns mainGlobals mg → mg d.name = some (.ref fa) →
      ∃ fd : FuncData, (∀ (s : Shared) (u : Value), BindsTo s fd ⟨[u], []⟩ [(x, u)]) ∧ ∀ base : Heap, (K w.params).In base → base.Ns mainGlobals mg → (∃ o, base.get? sysModules = some o) → FnG l.prog w (K w.params) mg base k fa fd [x] (sp w))
    (hsp : ∀ (w : World) (H : Hp) (a : Addr) (ns : List Int), ns.length ≤ n → Only H → SqL (K w.params) H a (ns.map V.int) → sp w [.ref a] H (fun v _ => v = .bl true) E0) :
    PySem.W.WalkO q loose XP YP l.row.toRowW d [] (fun f vs => PySem.call f vs) := by
  refine Att.attach_call most nd fun w sA sB mg mb fa o pm cd doc a us ns G Y ho hd hcd hmg hobj hints hlen hg => ?_
  obtain ⟨fd, hb, hF⟩ := F w mg fa _ (hY w _ Y) G.T.g hmg
  obtain ⟨mm, h1, _⟩ := (G.T.seer hi).mods
  exact lawG2 (hY w _ Y) G.T.g G.T.b G.T.builtins G.T.nolimit ⟨mm, h1⟩ hg hobj hints (Nat.le_trans hlen n2) room hF hb fun H only seq => hsp w H a ns hlen only seq
end Dl
namespace Dl
open PySem PySem.Spec PyProof.Rows L2 Rt
/-! ### the least and the greatest of a list, a list in its order -/
def leastI : List Int → Option Int
  | [] => none
  | x :: xs => some (xs.foldl (fun a b => if b < a then b else a) x)
def mostI : List Int → Option Int
  | [] => none
  | x :: xs => some (xs.foldl (fun a b => if b > a then b else a) x)
theorem foldl_least : ∀ (xs : List Int) (x m : Int), m ∈ x :: xs → (∀ y ∈ x :: xs, m ≤ y) → xs.foldl (fun a b => if b < a then b else a) x = m
  | [], x, m, h, _ => (List.mem_singleton.mp h).symm
  | y :: xs, x, m, h, hl => by
    show xs.foldl _ (if y < x then y else x) = m
    have h1 := hl x (by simp)
    have h2 := hl y (by simp)
    refine foldl_least xs _ m ?_ fun z hz => ?_
    · rcases List.mem_cons.mp h with rfl | h
      · rw [if_neg (by omega)]; exact List.mem_cons_self
      · rcases List.mem_cons.mp h with rfl | h
        · by_cases e : m < x
          · rw [if_pos e]; exact List.mem_cons_self
          · have : x = m := by omega
            rw [if_neg e, this]; exact List.mem_cons_self
        · exact List.mem_cons_of_mem _ h
    · rcases List.mem_cons.mp hz with rfl | hz
      · split <;> omega
      · exact hl z (by simp [hz])
theorem foldl_most : ∀ (xs : List Int) (x m : Int), m ∈ x :: xs → (∀ y ∈ x :: xs, y ≤ m) → xs.foldl (fun a b => if b > a then b else a) x = m
  | [], x, m, h, _ => (List.mem_singleton.mp h).symm
  | y :: xs, x, m, h, hl => by
    show xs.foldl _ (if y > x then y else x) = m
    have h1 := hl x (by simp)
    have h2 := hl y (by simp)
    refine foldl_most xs _ m ?_ fun z hz => ?_
    · rcases List.mem_cons.mp h with rfl | h
      · rw [if_neg (by omega)]; exact List.mem_cons_self
      · rcases List.mem_cons.mp h with rfl | h
        · by_cases e : m > x
          · rw [if_pos e]; exact List.mem_cons_self
          · have : x = m := by omega
            rw [if_neg e, this]; exact List.mem_cons_self
        · exact List.mem_cons_of_mem _ h
    · rcases List.mem_cons.mp hz with rfl | hz
      · split <;> omega
      · exact hl z (by simp [hz])
def minLD : List D → Option D
  | [.list ds] => ((intsD ds).bind leastI).map .int
  | _ => none
def maxLD : List D → Option D
  | [.list ds] => ((intsD ds).bind mostI).map .int
  | _ => none
section
variable {X : Cx}
theorem c_minL (hc : X.calm = true) : CallR X (.builtin "min") (rC minLD) := by
  intro pn s σ H xs us Q I r h
  obtain ⟨M, ds, d, dm, ra, e, q⟩ := h
  match ds, ra, e with
  | [.list ds], .cons (.lst t n l rr) .nil, e =>
    obtain ⟨m, em, rfl⟩ := some_map (show ((intsD ds).bind leastI).map PyData.int = some d from e)
    obtain ⟨ns, en, em⟩ := some_bind em
    have hv := rr.ints en
    subst hv
    refine cr_min hc pn s σ H _ us Q I r ⟨_, ns, rfl, SqL.of t, ?_, fun m' hm hl => ?_⟩
    · cases ns with
      | nil => cases em
      | cons _ _ => simp
    · have : m' = m := by
        cases ns with
        | nil => cases em
        | cons x xs =>
          have e2 := foldl_least xs x m' hm hl
          have em : some (xs.foldl (fun a b => if b < a then b else a) x) = some m := em
          rw [e2] at em
          cases em
          rfl
      subst this
      exact q _ _ (Same.refl _) (.int _)
theorem c_maxL (hc : X.calm = true) : CallR X (.builtin "max") (rC maxLD) := by
  intro pn s σ H xs us Q I r h
  obtain ⟨M, ds, d, dm, ra, e, q⟩ := h
  match ds, ra, e with
  | [.list ds], .cons (.lst t n l rr) .nil, e =>
    obtain ⟨m, em, rfl⟩ := some_map (show ((intsD ds).bind mostI).map PyData.int = some d from e)
    obtain ⟨ns, en, em⟩ := some_bind em
    have hv := rr.ints en
    subst hv
    refine cr_max hc pn s σ H _ us Q I r ⟨_, ns, rfl, SqL.of t, ?_, fun m' hm hl => ?_⟩
    · cases ns with
      | nil => cases em
      | cons _ _ => simp
    · have : m' = m := by
        cases ns with
        | nil => cases em
        | cons x xs =>
          have e2 := foldl_most xs x m' hm hl
          have em : some (xs.foldl (fun a b => if b > a then b else a) x) = some m := em
          rw [e2] at em
          cases em
          rfl
      subst this
      exact q _ _ (Same.refl _) (.int _)
/-- sorted, the least first -/
def sortA (ns : List Int) : List Int := ns.mergeSort fun a b => decide (a ≤ b)
theorem sortA_perm (ns : List Int) : (sortA ns).Perm ns := List.mergeSort_perm ns _
theorem sortA_pw (ns : List Int) : (sortA ns).Pairwise (· ≤ ·) := by
  have := List.pairwise_mergeSort (le := fun a b : Int => decide (a ≤ b)) (fun a b c h1 h2 => by simp at *; omega) (fun a b => by simp; omega) ns
  exact this.imp fun h => by simpa using h
theorem pw_uniqA : ∀ {a b : List Int}, a.Perm b → a.Pairwise (· ≤ ·) → b.Pairwise (· ≤ ·) → a = b
  | [], b, p, _, _ => (List.nil_perm.mp p).symm
  | x :: a, [], p, _, _ => absurd p.length_eq (by simp)
  | x :: a, y :: b, p, ha, hb => by
    have h1 := List.pairwise_cons.mp ha
    have h2 := List.pairwise_cons.mp hb
    have e : x = y := by
      have m1 : x ∈ y :: b := p.mem_iff.mp List.mem_cons_self
      have m2 : y ∈ x :: a := p.mem_iff.mpr List.mem_cons_self
      rcases List.mem_cons.mp m1 with e | m1
      · exact e
      · rcases List.mem_cons.mp m2 with e | m2
        · exact e.symm
        · have := h1.1 y m2
          have := h2.1 x m1
          omega
    subst e
    rw [pw_uniqA ((List.perm_cons _).mp p) h1.2 h2.2]
def sorAD : List D → Option D
  | [.list ds] => (intsD ds).bind fun ns => if ns.length < 64 then some (.list ((sortA ns).map .int)) else none
  | _ => none
theorem ints_rpA {M : Addr → Prop} {H : Hp} : ∀ ns : List Int, RpAll M H (ns.map V.int) (ns.map PyData.int)
  | [] => .nil
  | n :: ns => .cons (.int n) (ints_rpA ns)
theorem c_sorA : CallR X (.builtin "sorted") (rC sorAD) := by
  intro pn s σ H xs us Q I r h
  obtain ⟨M, ds, d, dm, ra, e, q⟩ := h
  match ds, ra, e with
  | [.list ds], .cons (.lst t n l rr) .nil, e =>
    obtain ⟨ns, en, e⟩ := some_bind (show (intsD ds).bind _ = some d from e)
    obtain ⟨l2, rfl⟩ := iteS e
    have hv := rr.ints en
    subst hv
    refine cr_sorted pn s σ H _ us Q I r ⟨_, ns, rfl, SqL.of t, l2, fun ns' p pm pw np => ?_⟩
    have : ns' = sortA ns := pw_uniqA (pm.trans (sortA_perm ns).symm) pw (sortA_pw ns)
    subst this
    exact q _ _ (smN np) (.lst upd_same (dm.not np) (by rw [List.length_map, (sortA_perm ns).length_eq]; exact small64 l2) (ints_rpA _))
end
end Dl
namespace Dl
open PySem PySem.Spec PyProof.Rows L2 Rt
/-! ### comprehensions of two fors -/
def lc2Go (vs1 : List Nat) (p p1 : Pat) (it1 : Rho → Option (List D)) (f : EF) (ρ : Rho) : List D → Option (List D)
  | [] => some []
  | x :: xs => (bindP p x ρ).bind fun ρ1 => (it1 ρ1).bind fun its => (lcGo p1 oYes f (wipeR ρ1 vs1) its).bind fun r => (lc2Go vs1 p p1 it1 f ρ xs).map fun t => r ++ t
def eLc2 (μ : Bool) (vs vs1 : List Nat) (it : Rho → Option (List D)) (p p1 : Pat) (it1 : Rho → Option (List D)) (f : EF) : EF := fun ρ => (it ρ).bind fun items => (lc2Go vs1 p p1 it1 f (wipeR (shutR μ ρ) vs) items).bind fun r => if r.length ≤ 100000 then some (.list r) else none
theorem Rs.wipeN {M0 : Addr → Prop} {H0 H : Hp} {σ : L2.St} {ρ : Rho} (R : Rs M0 H0 H σ ρ) : ∀ vs : List Nat, Rs M0 H0 H (wipe σ vs) (wipeR ρ vs)
  | [] => R
  | v :: vs => (R.wipeN vs).clear v none
theorem Rs.reb {M0 : Addr → Prop} {H H' : Hp} {σ : L2.St} {ρ : Rho} (R : Rs M0 H H σ ρ) (k : KpM M0 H H') (dom : Dom M0 H') : Rs M0 H' H' σ ρ := by
  have no : ∀ (i : Nat) (ds : List D), ρ[i]? = some (some (.own ds)) → False := fun i ds e => by
    obtain ⟨p, vs, _, b, c, _⟩ := R.own i ds e
    rw [b] at c
    cases c
  exact ⟨Same.refl _, dom, R.len, fun i d e => by
    obtain ⟨v, a, b⟩ := R.dat i d e
    exact ⟨v, a, b.mono fun p o n e => k p o (fun m => n (.inl m)) e⟩, fun i ds e => (no i ds e).elim, R.raw, fun i j a b p e => (no i a e).elim⟩
theorem Rs.noM {M0 : Addr → Prop} {H : Hp} {σ : L2.St} {ρ : Rho} (R : Rs M0 H H σ ρ) (a : Addr) (m : Mu true M0 σ ρ a) : M0 a := by
  rcases m with m | ⟨_, i, ds, e, _⟩
  · exact m
  · obtain ⟨p, vs, _, b, c, _⟩ := R.own i ds e
    rw [b] at c
    cases c
theorem lc2Core {K : PySem.W.Frag} {μ μ1 μi pr pr1 : Bool} {M0 : Addr → Prop} {H0 H1 : Hp} {σ : L2.St} {ρ : Rho} {J : It} {items res : List D} {p p1 : Pat} {it1 : Rho → Option (List D)} {f : EF} {vs vs1 : List Nat} {D : Addr} {Qd : Hp → Prop}
    (R : Rs M0 H0 H1 σ ρ) (dw : ∀ M', (∀ a, M' a → Mu μ M0 σ ρ a ∨ H1 a = none) → DW pr M' H1 J items) (hD : H1 D = none) (hp : p.fits pr = true) (hs : ∀ j, j ∈ slP p → j ∈ vs) (hp1 : p1.fits pr1 = true) (hs1 : ∀ j, j ∈ slP p1 → j ∈ vs1) (e : lc2Go vs1 p p1 it1 f (wipeR (shutR μ ρ) vs) items = some res) (len : res.length ≤ 100000)
    (q : ∀ H acc, Same H1 H → H D = some (.lst acc) → acc.length ≤ sizeLine → RpAll (Mi μ M0 σ ρ D) H acc res → Qd H) :
    ∃ W : Nat → Nat → Hp → Prop, (∃ m, W 0 m (upd H1 D (.lst []))) ∧ ∀ i m H, W i m H →
      (J.stop i H ∧ Qd H) ∨ (J.go i H ∧ ∃ Nx : Hp → Prop, (∀ H', Nx H' → ∃ m', m' < m ∧ W (i + 1) m' H') ∧ ∀ x H', J.yld i H x H' → gP K p x (wipe σ vs) H' fun σ2 H2 => wipe σ2 vs = wipe σ vs ∧ tT oYes σ2 H2 fun b H3 =>
        if b = true then iD μ1 pr1 it1 σ2 H3 fun J1 H4 => ∃ W1 : Nat → Nat → Hp → Prop, (∃ m, W1 0 m H4) ∧ ∀ j k H, W1 j k H →
          (J1.stop j H ∧ Nx H) ∨ (J1.go j H ∧ ∃ Nx1 : Hp → Prop, (∀ H', Nx1 H' → ∃ k', k' < k ∧ W1 (j + 1) k' H') ∧ ∀ x H', J1.yld j H x H' → gP K p1 x (wipe σ2 vs1) H' fun σ3 H5 => wipe σ3 vs1 = wipe σ2 vs1 ∧ tT oYes σ3 H5 fun b H6 =>
            if b = true then tD μi f σ3 H6 fun y H7 => ∃ acc, H7 D = some (.lst acc) ∧ acc.length < sizeLine ∧ Nx1 (upd H7 D (.lst (acc ++ [y]))) else Nx1 H6)
        else Nx H3) := by
  have dw := dw (Mi μ M0 σ ρ D) fun a m => m.elim .inl fun z => .inr (by rw [z]; exact hD)
  obtain ⟨G, Y, W, hG, hY⟩ := dw.ex
  have szl : 100000 ≤ sizeLine := by decide
  let Pv : Nat → Hp → Prop := fun i H => Same H1 H ∧ ∃ acc done rest, H D = some (.lst acc) ∧ RpAll (Mi μ M0 σ ρ D) H acc done ∧ lc2Go vs1 p p1 it1 f (wipeR (shutR μ ρ) vs) (items.drop i) = some rest ∧ done ++ rest = res
  refine ⟨fun i m H => m = items.length - i ∧ i ≤ items.length ∧ Pv i H, ⟨items.length, by simp, Nat.zero_le _, smN hD, [], [], res, upd_same, .nil, e, rfl⟩, ?_⟩
  rintro i m H ⟨rfl, hi, sm, acc, done, rest, eD, ra, er, et⟩
  by_cases hlt : i < items.length
  · refine .inr ⟨W.goes i H hlt (hG H (.of sm)), Pv (i + 1), fun H' p' => ⟨items.length - (i + 1), by omega, rfl, hlt, p'⟩, fun x H' y => ?_⟩
    obtain ⟨d, ed, s2, rv⟩ := hY i x H H' (.of sm) (W.yields i H x H' hlt (hG H (.of sm)) y)
    rw [drop_at ed] at er
    unfold lc2Go at er
    obtain ⟨ρ1, e1, er⟩ := some_bind er
    obtain ⟨its, ei, er⟩ := some_bind er
    obtain ⟨r1, er1, er⟩ := some_bind er
    obtain ⟨r2, er2, er⟩ := some_map er
    have er : r1 ++ r2 = rest := er
    have Rin := R.inner (μ := μ) hD (sm.trans s2) (s2 _ _ eD) vs
    refine bindP.ok (pr := pr) Rin ?_ hp e1 fun σ2 R2 B2 => ⟨wipe_eq B2.oth B2.len hs, _, _, ρ1, true, R2, rfl, fun H3 s3 => ?_⟩
    · rcases rv with rv | ⟨zp, a, xs, ds, z1, z2, z3, z4⟩
      · exact .inl (rv.reM fun a m => .inl (Mi.noOwn a m))
      · exact .inr ⟨zp, a, xs, ds, z1, z2, z3, z4.reM fun a m => .inl (Mi.noOwn a m)⟩
    refine ⟨_, _, ρ1, its, R2.mono s3, ei, fun J1 H4 s4 dw1 => ?_⟩
    have dw1 := dw1 (Mi μ M0 σ ρ D) fun a m => .inl (.inl m)
    obtain ⟨G1, Y1, W1, hG1, hY1⟩ := dw1.ex
    have s24 : Same H H4 := (s2.trans s3).trans s4
    have s14 : Same H1 H4 := sm.trans s24
    let P1 : Nat → Hp → Prop := fun j H5 => KpM (Mi μ M0 σ ρ D) H4 H5 ∧ Same H1 H5 ∧ ∃ acc' done' rest', H5 D = some (.lst acc') ∧ RpAll (Mi μ M0 σ ρ D) H5 acc' (done ++ done') ∧ lcGo p1 oYes f (wipeR ρ1 vs1) (its.drop j) = some rest' ∧ done' ++ rest' = r1
    refine ⟨fun j k H5 => k = its.length - j ∧ j ≤ its.length ∧ P1 j H5, ⟨its.length, by simp, Nat.zero_le _, .refl, s14, acc, [], r1, s24 _ _ eD, by rw [List.append_nil]; exact ra.mono (.of s24), er1, rfl⟩, ?_⟩
    rintro j k H5 ⟨rfl, hj, k5, s5, acc', done', rest', eD5, ra5, er5, et5⟩
    by_cases hlj : j < its.length
    · refine .inr ⟨W1.goes j H5 hlj (hG1 H5 k5), P1 (j + 1), fun H' p' => ⟨its.length - (j + 1), by omega, rfl, hlj, p'⟩, fun x1 H6 y1 => ?_⟩
      obtain ⟨d1, ed1, s6, rv1⟩ := hY1 j x1 H5 H6 k5 (W1.yields j H5 x1 H6 hlj (hG1 H5 k5) y1)
      rw [drop_at ed1] at er5
      unfold lcGo at er5
      obtain ⟨ρ2, e2, er5⟩ := some_bind er5
      obtain ⟨bb, eb, er5⟩ := some_bind er5
      cases eb
      obtain ⟨dv, edv, er5⟩ := some_bind (show (f ρ2).bind _ = some rest' from er5)
      obtain ⟨r3, er3, er5⟩ := some_map er5
      have er5 : dv :: r3 = rest' := er5
      have dom6 : Dom (Mi μ M0 σ ρ D) H6 := fun a m => by
        rcases m with m | rfl
        · exact ((R.mono (s5.trans s6)).domu μ) a m
        · rw [s6 _ _ eD5]; intro z; cases z
      have k36 : KpM (Mi μ M0 σ ρ D) H' H6 := fun a o n e => s6 a o (k5 a o n (s4 a o (s3 a o e)))
      have Rw := (R2.reb k36 dom6).wipeN vs1
      refine bindP.ok (pr := pr1) Rw ?_ hp1 e2 fun σ3 R3 B3 => ⟨wipe_eq B3.oth B3.len hs1, _, _, ρ2, true, R3, rfl, fun H7 s7 => ?_⟩
      · rcases rv1 with rv1 | ⟨zp, a, xs, ds, z1, z2, z3, z4⟩
        · exact .inl (rv1.reM fun a m => .inl (Rw.noM a m))
        · exact .inr ⟨zp, a, xs, ds, z1, z2, z3, z4.reM fun a m => .inl (Rw.noM a m)⟩
      refine ⟨_, _, ρ2, dv, R3.mono s7, edv, fun y H8 s8 r8 => ?_⟩
      have s58 : Same H5 H8 := (s6.trans s7).trans s8
      have eD8 := s58 _ _ eD5
      have kp : KpM (Mi μ M0 σ ρ D) H8 (upd H8 D (.lst (acc' ++ [y]))) := fun q o n e => by
        rw [upd_ne (fun z => n (.inr z))]
        exact e
      have r8 : Rp (Mi μ M0 σ ρ D) H8 y dv := r8.reM fun a m => .inl (.inl m)
      have hl : acc'.length < sizeLine := by
        rw [ra5.len]
        have : (done ++ done').length < res.length := by
          rw [← et, ← er, ← et5, ← er5]
          simp only [List.length_append, List.length_cons]
          omega
        omega
      refine ⟨acc', eD8, hl, fun a o n e => kp a o n (s58 a o (k5 a o n e)), fun a o e => ?_, acc' ++ [y], done' ++ [dv], r3, upd_same, ?_, er3, by rw [← et5, ← er5, List.append_assoc]; rfl⟩
      · rw [upd_ne (ne_of_none e hD)]
        exact s58 a o (s5 a o e)
      · rw [← List.append_assoc]
        exact ((ra5.mono (.of s58)).mono kp).app (.cons (r8.mono kp) .nil)
    · have ej : j = its.length := by omega
      subst ej
      rw [List.drop_length] at er5
      cases er5
      rw [List.append_nil] at et5
      subst et5
      exact .inl ⟨W1.stops H5 (hG1 H5 k5), s5, acc', done ++ done', r2, eD5, ra5, er2, by rw [List.append_assoc, er]; exact et⟩
  · have ei : i = items.length := by omega
    subst ei
    rw [List.drop_length] at er
    cases er
    rw [List.append_nil] at et
    subst et
    exact .inl ⟨W.stops H (hG H (.of sm)), q H acc sm eD (by rw [ra.len]; omega) ra⟩
section
variable {X : Cx} {K : PySem.W.Frag}
theorem dE_lc2 {e : Expr} {it it1 : Rho → Option (List D)} {p p1 : Pat} {f : EF} {vs vs1 : List Nat} {μ μ1 μi pr pr1 : Bool} (h : PE X e (tLc2 (iD μ pr it) (gP K p) (tT oYes) (iD μ1 pr1 it1) (gP K p1) (tT oYes) (tD μi f) vs vs1)) (hp : p.fits pr = true := by rfl) (hs : ∀ j, j ∈ slP p → j ∈ vs := by decide) (hp1 : p1.fits pr1 = true := by rfl) (hs1 : ∀ j, j ∈ slP p1 → j ∈ vs1 := by decide) : PE X e (tD μ (eLc2 μ vs vs1 it p p1 it1 f)) := h.wk fun σ H Q q => by
  obtain ⟨M0, H0, ρ, d, R, e, q⟩ := q
  obtain ⟨items, ei, e⟩ := some_bind e
  obtain ⟨res, er, e⟩ := some_bind e
  obtain ⟨l, rfl⟩ := iteS e
  exact ⟨M0, H0, ρ, items, R, ei, fun J H1 s1 dw D hD => lc2Core (R.mono s1) dw hD hp hs hp1 hs1 er l fun H2 acc s2 eD la ra => q _ _ (s1.trans s2) (.lst eD (((R.mono s1).domu μ).not hD) la (ra.reM fun a m => .inl (.inl m)))⟩
/-! ### a list of one's own, put otherwise at a place -/
def swPut (i : Nat) (f fi : WP D) : WP Out := ⟨fun ρ b Q => f.w ρ b fun d b1 => ∃ ds, ρ[i]? = some (some (.own ds)) ∧ fi.w ρ b1 fun x b2 => ∃ k j, x = .int k ∧ ixN ds.length k = some j ∧ Q (.nx (ρ.set i (some (.own (ds.set j d))))) b2, fun h z => f.m (fun d b1 ⟨ds, e, y⟩ => ⟨ds, e, fi.m (fun x b2 ⟨k, j, e1, e2, y⟩ => ⟨k, j, e1, e2, h _ _ y⟩) y⟩) z⟩
theorem nS_put {st : Stmt} {i : Nat} {f fi : WP D} (h : PS X st (tAsg (tn f) (gSub (tVar i) (tn fi) rSetLL))) : PS X st (tSn (swPut i f fi)) := h.wk fun Dn σ H q => by
  obtain ⟨g, M0, H0, ρ, b, R, q⟩ := q
  refine ⟨g, M0, H0, ρ, b, R, f.m (fun d b1 ⟨ds, z, q⟩ v H1 k1 i1 r1 => ?_) q⟩
  have R1 := R.up k1 i1
  obtain ⟨p, vs, a, c, h0, l, r⟩ := R1.own i ds z
  refine ⟨.ref p, a, g, M0, H0, ρ, b1, R1, fi.m (fun x b2 ⟨k, j, ex, ij, q⟩ y H2 k2 i2 r2 => ?_) q⟩
  subst ex
  cases r2
  have kk : KpM (Mu true M0 σ ρ) H1 H2 := fun p o n e => k2 p o (fun z => n (.inl (R.pl p z))) e
  have c2 := k2 _ _ (fun o => R.dom0 p (R.pl p o) h0) c
  refine ⟨p, vs, k, j, rfl, rfl, c2, by rw [r.len]; exact ij, fun H3 e3 => ?_⟩
  subst e3
  obtain ⟨R3, S3⟩ := (R1.up k2 i2).ownSet z a c2 (vs' := vs.set j v) (by rw [List.length_set]; exact l) (RpAll.set (r1.mono kk) j (r.mono kk))
  exact q _ _ R3 (((R.stp k1).trans (R1.stp k2)).trans S3)
/-- [x] * n, a new list -/
def mulL : D → D → Option D
  | .list ds, .int k => if 0 ≤ k ∧ k ≤ 1000 ∧ ds.length ≤ 1000 then some (.list (List.replicate k.toNat ds).flatten) else none
  | _, _ => none
theorem oE_rep {a b : Expr} {pos : Pos} {f1 f2 : EF} (ha : PE X a (tD true f1)) (hb : PE X b (tD true f2)) : PE X (.BinOp a .Mult b pos) (tN (e2 mulL f1 f2)) := (pe_op op_rep ha hb).wk fun σ H Q q => by
  obtain ⟨M0, H0, ρ, ds, R, e, q⟩ := q
  obtain ⟨d1, e1, ea⟩ := some_bind e
  obtain ⟨d2, e2, eb⟩ := some_bind ea
  clear e ea
  refine ⟨M0, H0, ρ, d1, R, e1, fun v1 H1 s1 r1 => ⟨M0, H0, ρ, d2, R.mono s1, e2, fun v2 H2 s2 r2 => ?_⟩⟩
  cases r1 <;> (try (cases r2 <;> cases eb; done))
  rename_i t n l r
  cases r2 <;> (try (cases eb; done))
  rename_i k
  obtain ⟨l2, e3⟩ := iteS eb
  cases e3
  have hl := r.len
  have hm : (List.length ‹List V›) * k.toNat ≤ sizeLine := by
    rw [hl]
    exact Nat.le_trans (Nat.mul_le_mul l2.2.2 (show k.toNat ≤ 1000 by omega)) (by decide)
  refine ⟨_, _, _, rfl, rfl, s2 _ _ t, by omega, by omega, hm, fun p hp => q p _ _ ?_ ((s1.trans s2).trans (smN hp)) upd_same (by rw [rep_len, Nat.mul_comm]; exact hm) ?_⟩
  · cases z : H p with
    | none => rfl
    | some o => rw [(s1.trans s2) _ _ z] at hp; cases hp
  · have k : ∀ a, Mi true M0 σ ρ p a → Mu true M0 σ ρ a ∨ H2 a = none := fun a m => by
      rcases m with m | rfl
      · exact .inl m
      · exact .inr hp
    exact (((r.mono (.of s2)).reM k).mono (.of (smN hp))).rep _
/-! ### tuples * 0, () * n -/
theorem tuple_mulE (l : Addr) (n : Nat) (dd : Option Addr) (sl : Array (Option Value)) (x : Int) (u : Tok) (c0 : (decide (x < -(2 ^ 63)) || decide (x ≥ 2 ^ 63)) = false) :
    Meets (Builtin.«tuple.__mul__» ⟨[.ref l, .int x u], []⟩) (fun _ R s => s.heap.get? l = some { cls := .type "tuple", dict := dd, data := .seq #[] n, slots := sl } ∧
      R (.ok (.ret (Value.ref l))) s) :=
  .of_wp fun prog w A R s h => by
    obtain ⟨hp, g, d, tk, os⟩ := s
    obtain ⟨hl, h⟩ := h
    have f1 := AutoSeq1.idx_int
    have c1 : ((#[] : Array Value).isEmpty || x == 1) = true := rfl
    wp_walk using wpAny_loadPart' hl
    repeat (first
      | (refine wpAny_ite_false (decide_eq_false (by rw [c0]; exact Bool.false_ne_true)) ?_; wp_walk using wpAny_loadPart' hl)
      | (refine wpAny_ite_true (decide_eq_true c1) ?_; wp_walk using wpAny_loadPart' hl))
    exact ⟨_, rfl, h⟩
theorem tuple_mulZ (l : Addr) (items : Array Value) (n : Nat) (dd : Option Addr) (sl : Array (Option Value)) (u : Tok) (c1 : (items.isEmpty || (0 : Int) == 1) = false) :
    Meets (Builtin.«tuple.__mul__» ⟨[.ref l, .int 0 u], []⟩) (fun _ R s => s.heap.get? l = some { cls := .type "tuple", dict := dd, data := .seq items n, slots := sl } ∧
      R (.ok (.ret (Value.ref s.heap.objs.size))) { s with heap := s.heap.push { cls := Value.type "tuple", data := Data.seq #[] }, toks := s.toks }) :=
  .of_wp fun prog w A R s h => by
    obtain ⟨hp, g, d, tk, os⟩ := s
    obtain ⟨hl, h⟩ := h
    have f1 := AutoSeq1.idx_int
    have c0 : (decide ((0 : Int) < -(2 ^ 63)) || decide ((0 : Int) ≥ 2 ^ 63)) = false := by decide
    have c2 : (decide ((0 : Int) ≤ 0) || items.isEmpty) = true := rfl
    wp_walk using wpAny_loadPart' hl
    repeat (first
      | (refine wpAny_ite_false (decide_eq_false (by rw [c0]; exact Bool.false_ne_true)) ?_; wp_walk using wpAny_loadPart' hl)
      | (refine wpAny_ite_false (decide_eq_false (by rw [c1]; exact Bool.false_ne_true)) ?_; wp_walk using wpAny_loadPart' hl)
      | (refine wpAny_ite_true (decide_eq_true c2) ?_; wp_walk using wpAny_loadPart' hl))
    exact ⟨_, rfl, h⟩
end
end Dl
namespace Dl
open PySem PySem.Spec PyProof.Rows L2 Rt
section
variable {X : Cx} {K : PySem.W.Frag}
def mulY : D → D → Option D
  | .tuple ds, .int k => if ds.isEmpty = true ∧ 0 ≤ k ∧ k ≤ 1000 then some (.tuple []) else if k = 0 then some (.tuple []) else mulX (.tuple ds) (.int k)
  | a, b => mulX a b
theorem o_mulY : OpR X (binaryOp .Mult) (rD mulY) := by
  intro pn s σ H x y v u Q I rx ry h
  obtain ⟨M, a, b, d, dm, ra, rb, e, q⟩ := h
  by_cases hb : ∃ ds k, a = .tuple ds ∧ b = .int k
  · obtain ⟨ds, k, rfl, rfl⟩ := hb
    have e : (if ds.isEmpty = true ∧ 0 ≤ k ∧ k ≤ 1000 then some (PyData.tuple []) else if k = 0 then some (PyData.tuple []) else mulX (.tuple ds) (.int k)) = some d := e
    by_cases h1 : ds.isEmpty = true ∧ 0 ≤ k ∧ k ≤ 1000
    · rw [if_pos h1] at e
      cases e
      have : ds = [] := List.isEmpty_iff.mp h1.1
      subst this
      cases ra with
      | tup t n l r =>
        cases r
        cases rb
        cases rx
        obtain ⟨tk, rfl⟩ := ry
        obtain ⟨its, r, ⟨⟨cls, dd, data, sl⟩, ho, hc, m, hd⟩, hs⟩ := I.tuple (t.sq (K := X.K))
        simp only at hc hd
        subst hc hd
        cases r
        refine wpAny_binaryOp_repeat_ref (T := "tuple") (U := "int") (by decide) ⟨_, ho, rfl⟩ (fun s' => typeIs_int s' k tk) noFill_tuple_mul F.fills_int_mul F.slot_int_rmul repeat_tuple F.slot_int_index.lookup
          (call_meets F.slot_int_rmul (typeIs_int s k tk) F.entry_int_rmul (F.args_int_rmul_2 _ _) (int_rmul_tuple k tk _ _ m dd sl)
            ⟨ho, rfl, ⟨_, ho, rfl⟩, call_meets F.slot_tuple_mul ⟨_, ho, rfl⟩ F.entry_tuple_mul (F.args_tuple_mul_2 _ _) (tuple_mulE _ m dd sl k tk (by simp; omega)) ⟨ho, ?_⟩⟩)
        exact ⟨.ref _, H, I, rfl, q _ _ (Same.refl _) (.tup t n l .nil)⟩
    · rw [if_neg h1] at e
      by_cases h2 : k = 0
      · subst h2
        rw [if_pos rfl] at e
        cases e
        have hne : ds ≠ [] := fun z => h1 ⟨by rw [z]; rfl, by decide, by decide⟩
        cases ra with
        | tup t n l r =>
          cases rb
          cases rx
          obtain ⟨tk, rfl⟩ := ry
          obtain ⟨its, r2, ⟨⟨cls, dd, data, sl⟩, ho, hc, m, hd⟩, hs⟩ := I.tuple (t.sq (K := X.K))
          simp only at hc hd
          subst hc hd
          have ie : (its.toArray.isEmpty || (0 : Int) == 1) = false := by
            cases its with
            | nil =>
              cases r2
              cases r
              exact (hne rfl).elim
            | cons a b => rfl
          refine wpAny_binaryOp_repeat_ref (T := "tuple") (U := "int") (by decide) ⟨_, ho, rfl⟩ (fun s' => typeIs_int s' 0 tk) noFill_tuple_mul F.fills_int_mul F.slot_int_rmul repeat_tuple F.slot_int_index.lookup
            (call_meets F.slot_int_rmul (typeIs_int s 0 tk) F.entry_int_rmul (F.args_int_rmul_2 _ _) (int_rmul_tuple 0 tk _ _ m dd sl)
              ⟨ho, rfl, ⟨_, ho, rfl⟩, call_meets F.slot_tuple_mul ⟨_, ho, rfl⟩ F.entry_tuple_mul (F.args_tuple_mul_2 _ _) (tuple_mulZ _ its.toArray m dd sl tk ie) ⟨ho, ?_⟩⟩)
          have fr := I.hok.fresh (Nat.le_refl s.heap.objs.size)
          have J := Inv.tupF I (us := []) (xs := []) .nil (Nat.zero_le _)
          exact ⟨.ref s.heap.objs.size, _, J, rfl, q _ _ (smN fr) (.tup ⟨_, upd_same, rfl⟩ (dm.not fr) (Nat.zero_le _) .nil)⟩
      · rw [if_neg h2] at e
        exact o_mulX pn s σ H _ _ v u Q I rx ry ⟨M, _, _, d, dm, ra, rb, e, q⟩
  · refine o_mulX pn s σ H _ _ v u Q I rx ry ⟨M, a, b, d, dm, ra, rb, ?_, q⟩
    unfold mulY at e
    split at e
    · exact (hb ⟨_, _, rfl, rfl⟩).elim
    · exact e
/-- str of a number -/
def strD : List D → Option D
  | [.int i] => if i.natAbs < 10 ^ 30 then some (.str (Str.ofString (toString i))) else none
  | _ => none
theorem c_strI : CallR X (.type "str") (rC strD) := by
  intro pn s σ H xs us Q I r h
  obtain ⟨M, ds, d, dm, ra, e, q⟩ := h
  match ds, ra, e with
  | [.int i], .cons rx .nil, e =>
    cases rx
    obtain ⟨l, rfl⟩ := iteS e
    refine call_str_int pn s σ H _ us Q I r ⟨i, rfl, Nat.lt_trans (log30 l) (by decide), q _ _ (Same.refl _) (.str _ ?_)⟩
    have := int_text_length_le10 (a := i) (k := 30) (by decide) l
    show (Str.ofString (toString i)).length ≤ sizeLine
    rw [PySem.ofString_length]
    exact Nat.le_trans this (by decide)
/-- sorted, the greatest first -/
def sortR (ns : List Int) : List Int := ns.mergeSort fun a b => decide (b ≤ a)
theorem sortR_perm (ns : List Int) : (sortR ns).Perm ns := List.mergeSort_perm ns _
theorem sortR_pw (ns : List Int) : (sortR ns).Pairwise (· ≥ ·) := by
  have := List.pairwise_mergeSort (le := fun a b : Int => decide (b ≤ a)) (fun a b c h1 h2 => by simp at *; omega) (fun a b => by simp; omega) ns
  exact this.imp fun h => by simpa using h
theorem pw_uniq : ∀ {a b : List Int}, a.Perm b → a.Pairwise (· ≥ ·) → b.Pairwise (· ≥ ·) → a = b
  | [], b, p, _, _ => (List.nil_perm.mp p).symm
  | x :: a, [], p, _, _ => absurd p.length_eq (by simp)
  | x :: a, y :: b, p, ha, hb => by
    have h1 := List.pairwise_cons.mp ha
    have h2 := List.pairwise_cons.mp hb
    have e : x = y := by
      have m1 : x ∈ y :: b := p.mem_iff.mp List.mem_cons_self
      have m2 : y ∈ x :: a := p.mem_iff.mpr List.mem_cons_self
      rcases List.mem_cons.mp m1 with e | m1
      · exact e
      · rcases List.mem_cons.mp m2 with e | m2
        · exact e.symm
        · have := h1.1 y m2
          have := h2.1 x m1
          omega
    subst e
    rw [pw_uniq ((List.perm_cons _).mp p) h1.2 h2.2]
def sorD : D → Option D
  | .list ds => (intsD ds).map fun ns => .list ((sortR ns).map .int)
  | _ => none
theorem ints_rp {M : Addr → Prop} {H : Hp} : ∀ ns : List Int, RpAll M H (ns.map V.int) (ns.map PyData.int)
  | [] => .nil
  | n :: ns => .cons (.int n) (ints_rp ns)
theorem dE_sorR {e : Expr} {p pos kpos cpos : Pos} {k : Nat} {f : EF} {μ : Bool} (h : PE X e (tD μ f)) (hg : Gl X "sorted") (hm : X.mg "sorted" = none) (he : starEach [e] X.env = (false, eval e X.env) :: starEach [] X.env := by rfl)
    (he2 : backTo pos (starEach [e] X.env) = (false, eval e X.env) :: backTo pos (starEach [] X.env) := by rfl) (hpl : (backTo pos (starEach [e] X.env)).any (·.1) = false := by rfl) :
    PE X (.Call (.Name "sorted" p) [e] [⟨some "reverse", .Constant (.bool true) k cpos, kpos⟩] pos) (tD μ (e1 sorD f)) := (pe_callBK cr_sortedRev hg hm (by decide +kernel) (pa_cons h pa_nil he) (pk_cons (pe_bl (b := true)) pk_nil) (he := he2) (hpl := hpl)).wk fun σ H Q q => by
  obtain ⟨M0, H0, ρ, d, R, e, q⟩ := q
  obtain ⟨d1, e1, eb⟩ := some_bind e
  clear e
  refine ⟨M0, H0, ρ, d1, R, e1, fun v H1 s1 r1 => ?_⟩
  cases r1 <;> (try (cases eb; done))
  rename_i t n l r
  obtain ⟨ns, en, rfl⟩ := some_map eb
  have hv := r.ints en
  subst hv
  refine ⟨_, ns, rfl, rfl, SqL.of t, fun ns' a pm od np => ?_⟩
  have : ns' = sortR ns := pw_uniq (pm.trans (sortR_perm ns).symm) od (sortR_pw ns)
  subst this
  exact q _ _ (s1.trans (smN np)) (.lst upd_same (((R.mono s1).domu μ).not np) (by rw [List.length_map, (sortR_perm ns).length_eq, ← List.length_map (f := V.int)]; exact l) (ints_rp _))
/-- a call of a def that shows something -/
theorem dE_clG {k n : Nat} {x : Str} {ps : List Str} {g : List D → Option D} {p pos : Pos} {e : Expr} {es : List Expr} {f : Rho → Option (List D)} {μ : Bool} (C : ClG X.prog X.w X.K X.mg X.base k x ps (spD n g)) (hr : Room k X.A) (free : X.A.guards = some []) (hg : Gl X x) (ha : PA X (e :: es) (tA μ f))
    (hdb : (x == ("__debug__" : Str)) = false := by decide) (he : starEach (e :: es) X.env = (false, eval e X.env) :: starEach es X.env := by rfl) (hpl : (backTo pos (starEach es X.env)).any (·.1) = false := by rfl) :
    PE X (.Call (.Name x p) (e :: es) [] pos) (tD μ (eCall (gN n g) f)) := (pe_clG C hr free hg ha hdb he hpl).wk fun σ H Q q => by
  obtain ⟨M0, H0, ρ, d, R, e, q⟩ := q
  obtain ⟨ds, ed, e⟩ := some_bind e
  refine ⟨M0, H0, ρ, ds, R, ed, fun vs H1 s1 r1 => ?_⟩
  unfold gN at e
  split at e
  · rename_i l
    rw [List.append_nil]
    exact ⟨_, ds, d, (R.mono s1).domu μ, r1, l, e, fun v H2 s2 r2 => q v H2 (s1.trans s2) r2⟩
  · cases e
end
end Dl
namespace Dl
open PySem PySem.Spec PyProof.Rows L2 Rt
section
variable {X : Cx} {K : PySem.W.Frag}
def neX : D → D → Option D
  | .list ds, .list [] => neL0 (.list ds) (.list [])
  | a, b => neD a b
theorem o_neX (hu : X.A.units + 64 < cLine) : OpR X (compareOp .NotEq) (rD neX) := by
  intro pn s σ H x y v u Q I rx ry h
  obtain ⟨M, a, b, d, dm, ra, rb, e, q⟩ := h
  unfold neX at e
  split at e
  · exact o_neL0 hu pn s σ H _ _ v u Q I rx ry ⟨M, _, _, d, dm, ra, rb, e, q⟩
  · exact o_ne hu pn s σ H _ _ v u Q I rx ry ⟨M, _, _, d, dm, ra, rb, e, q⟩
/-- a list + a list, a new one -/
def catL : D → D → Option D
  | .list a, .list b => if a.length + b.length ≤ sizeLine then some (.list (a ++ b)) else none
  | _, _ => none
theorem oE_catD {a b : Expr} {pos : Pos} {f1 f2 : EF} (ha : PE X a (tD true f1)) (hb : PE X b (tD true f2)) : PE X (.BinOp a .Add b pos) (tN (e2 catL f1 f2)) := (pe_op op_cat ha hb).wk fun σ H Q q => by
  obtain ⟨M0, H0, ρ, ds, R, e, q⟩ := q
  obtain ⟨d1, e1, ea⟩ := some_bind e
  obtain ⟨d2, e2, eb⟩ := some_bind ea
  clear e ea
  refine ⟨M0, H0, ρ, d1, R, e1, fun v1 H1 s1 r1 => ⟨M0, H0, ρ, d2, R.mono s1, e2, fun v2 H2 s2 r2 => ?_⟩⟩
  cases r1 <;> (try (cases r2 <;> cases eb; done))
  rename_i t n l r
  cases r2 <;> (try (cases eb; done))
  rename_i t2 n2 l2 r2
  obtain ⟨l3, e3⟩ := iteS eb
  cases e3
  refine ⟨_, _, _, _, rfl, rfl, s2 _ _ t, t2, by rw [r.len, r2.len]; exact l3, fun p hp => q p _ _ ?_ ((s1.trans s2).trans (smN hp)) upd_same (by rw [List.length_append, r.len, r2.len]; exact l3) ?_⟩
  · cases z : H p with
    | none => rfl
    | some o => rw [(s1.trans s2) _ _ z] at hp; cases hp
  · have k : ∀ a, Mi true M0 σ ρ p a → Mu true M0 σ ρ a ∨ H2 a = none := fun a m => by
      rcases m with m | rfl
      · exact .inl m
      · exact .inr hp
    exact (((r.mono (.of s2)).reM k).mono (.of (smN hp))).app ((r2.reM k).mono (.of (smN hp)))
def eqT0 : D → D → Option D
  | .tuple ds, .tuple [] => some (.bool ds.isEmpty)
  | _, _ => none
theorem o_eqT0 (hu : X.A.units + 64 < cLine) : OpR X (compareOp .Eq) (rD eqT0) := by
  intro pn s σ H x y v u Q I rx ry h
  obtain ⟨M, a, b, d, dm, ra, rb, e, q⟩ := h
  cases ra <;> (try (cases rb <;> cases e; done))
  rename_i xs ds t n l r
  cases rb <;> (try (cases e; done))
  rename_i xs2 ds2 t2 n2 l2 r2
  cases r2 <;> (try (cases e; done))
  cases e
  cases rx
  cases ry
  obtain ⟨its, vi, it, _⟩ := I.tuple t.sq
  obtain ⟨its2, vi2, it2, _⟩ := I.tuple t2.sq
  cases vi2
  refine SeqAt.RcAt.tuples (e := fun _ => true) it it2 (by omega) (fun j _ h2 => absurd h2 (by simp)) _ _ _ _ ⟨.bl _, H, I, ?_, q _ _ (Same.refl _) (.bl _)⟩
  show Value.bool _ = Value.bool _
  congr 1
  cases r <;> cases vi <;> simp
def eqX : D → D → Option D
  | .tuple ds, .tuple [] => eqT0 (.tuple ds) (.tuple [])
  | a, b => eqD a b
theorem o_eqX (hu : X.A.units + 64 < cLine) : OpR X (compareOp .Eq) (rD eqX) := by
  intro pn s σ H x y v u Q I rx ry h
  obtain ⟨M, a, b, d, dm, ra, rb, e, q⟩ := h
  unfold eqX at e
  split at e
  · exact o_eqT0 hu pn s σ H _ _ v u Q I rx ry ⟨M, _, _, d, dm, ra, rb, e, q⟩
  · exact o_eq hu pn s σ H _ _ v u Q I rx ry ⟨M, _, _, d, dm, ra, rb, e, q⟩
def eqS' : D → D → Option D
  | .str a, .str b => some (.bool (a == b))
  | _, _ => none
theorem o_eqS (hu : X.A.units + 64 < cLine) : OpR X (compareOp .Eq) (rD eqS') := by
  intro pn s σ H x y v u Q I rx ry h
  obtain ⟨M, a, b, d, dm, ra, rb, e, q⟩ := h
  cases ra <;> (try (cases rb <;> cases e; done))
  cases rb <;> (try (cases e; done))
  cases e
  obtain ⟨t, rfl⟩ := rx
  obtain ⟨t', rfl⟩ := ry
  exact SeqAt.RcAt.str_str _ _ _ _ _ _ _ _ ⟨.bl _, H, I, rfl, q _ _ (Same.refl _) (.bl _)⟩
end
end Dl
namespace Dl
open PySem PySem.Spec PyProof.Rows L2 Rt
section
variable {X : Cx} {K : PySem.W.Frag}
/-- a list beside [] -/
def eqL0 : D → D → Option D
  | .list ds, .list [] => some (.bool ds.isEmpty)
  | _, _ => none
theorem o_eqL0 (hu : X.A.units + 64 < cLine) : OpR X (compareOp .Eq) (rD eqL0) := by
  intro pn s σ H x y v u Q I rx ry h
  obtain ⟨M, a, b, d, dm, ra, rb, e, q⟩ := h
  cases ra <;> (try (cases rb <;> cases e; done))
  rename_i xs ds t n l r
  cases rb <;> (try (cases e; done))
  rename_i xs2 ds2 t2 n2 l2 r2
  cases r2 <;> (try (cases e; done))
  cases e
  cases rx
  cases ry
  obtain ⟨_, its, k, vi, g⟩ := I.hok _ _ t
  obtain ⟨_, its2, k2, vi2, g2⟩ := I.hok _ _ t2
  cases vi2
  cases r with
  | nil =>
    cases vi
    refine SeqAt.RcAt.lists (e := fun _ => true) ⟨_, g, rfl, _, rfl⟩ ⟨_, g2, rfl, _, rfl⟩ rfl (by omega) (fun j h1 _ => absurd h1 (by simp)) _ _ _ _ ⟨.bl _, H, I, ?_, q _ _ (Same.refl _) (.bl _)⟩
    show Value.bool _ = Value.bool _
    simp
  | cons h1 h2 =>
    cases vi
    refine SeqAt.RcAt.lists_lengths ⟨_, g, rfl, _, rfl⟩ ⟨_, g2, rfl, _, rfl⟩ (by simp) (by omega) _ _ _ _ ⟨.bl _, H, I, ?_, q _ _ (Same.refl _) (.bl _)⟩
    rfl
/-- == and != : beside (), [], a text whatever stands there; else by data -/
def eqZ : D → D → Option D
  | .tuple ds, .tuple [] => eqT0 (.tuple ds) (.tuple [])
  | .list ds, .list [] => eqL0 (.list ds) (.list [])
  | a, b => eqD a b
theorem o_eqZ (hu : X.A.units + 64 < cLine) : OpR X (compareOp .Eq) (rD eqZ) := by
  intro pn s σ H x y v u Q I rx ry h
  obtain ⟨M, a, b, d, dm, ra, rb, e, q⟩ := h
  unfold eqZ at e
  split at e
  · exact o_eqT0 hu pn s σ H _ _ v u Q I rx ry ⟨M, _, _, d, dm, ra, rb, e, q⟩
  · exact o_eqL0 hu pn s σ H _ _ v u Q I rx ry ⟨M, _, _, d, dm, ra, rb, e, q⟩
  · exact o_eq hu pn s σ H _ _ v u Q I rx ry ⟨M, _, _, d, dm, ra, rb, e, q⟩
def neZ : D → D → Option D
  | .tuple ds, .tuple [] => neT0 (.tuple ds) (.tuple [])
  | .list ds, .list [] => neL0 (.list ds) (.list [])
  | a, b => neQ a b
theorem o_neZ (hu : X.A.units + 64 < cLine) : OpR X (compareOp .NotEq) (rD neZ) := by
  intro pn s σ H x y v u Q I rx ry h
  obtain ⟨M, a, b, d, dm, ra, rb, e, q⟩ := h
  unfold neZ at e
  split at e
  · exact o_neT0 hu pn s σ H _ _ v u Q I rx ry ⟨M, _, _, d, dm, ra, rb, e, q⟩
  · exact o_neL0 hu pn s σ H _ _ v u Q I rx ry ⟨M, _, _, d, dm, ra, rb, e, q⟩
  · exact o_neQ hu pn s σ H _ _ v u Q I rx ry ⟨M, _, _, d, dm, ra, rb, e, q⟩
/-- list(range(a, b)) -/
def eLstRg2 (f g : EF) : EF := fun ρ => (f ρ).bind fun a => (g ρ).bind fun b => match a, b with
  | .int i, .int j => if -(2 ^ 62) ≤ i ∧ i < 2 ^ 62 ∧ -(2 ^ 62) ≤ j ∧ j < 2 ^ 62 ∧ j - i < 2 ^ 20 then some (.list (rgD i (j - i).toNat)) else none
  | _, _ => none
theorem rgV_rp2 {M : Addr → Prop} {H : Hp} (i j : Int) : RpAll M H (rgV i j) (rgD i (j - i).toNat) := by
  unfold rgV rgD
  induction (List.range (j - i).toNat) with
  | nil => exact .nil
  | cons i r ih => exact .cons (.int _) ih
theorem dE_lstRg2 {e1 e2 : Expr} {p pos p2 pos2 : Pos} {f g : EF} {μ : Bool} (hc : X.calm = true) (hg : Gl X "list") (hm : X.mg "list" = none) (hg2 : Gl X "range") (hm2 : X.mg "range" = none) (h1 : PE X e1 (tD μ f)) (h2 : PE X e2 (tD μ g))
    (na : starEach [(Expr.Call (.Name "range" p2) [e1, e2] [] pos2)] X.env = (false, eval (Expr.Call (.Name "range" p2) [e1, e2] [] pos2) X.env) :: starEach [] X.env := by rfl)
    (nb : starEach [e1, e2] X.env = (false, eval e1 X.env) :: starEach [e2] X.env := by rfl) (nc : starEach [e2] X.env = (false, eval e2 X.env) :: starEach [] X.env := by rfl) (hp : (backTo pos2 (starEach [e2] X.env)).any (·.1) = false := by rfl) :
    PE X (.Call (.Name "list" p) [.Call (.Name "range" p2) [e1, e2] [] pos2] [] pos) (tD μ (eLstRg2 f g)) := (pe_listRg hc hg hm (prg_2 hg2 hm2 h1 h2 nb nc hp) na).wk fun σ H Q q => by
  obtain ⟨M0, H0, ρ, d, R, e, q⟩ := q
  obtain ⟨a, ea, e'⟩ := some_bind e
  obtain ⟨b, eb, e''⟩ := some_bind e'
  clear e e'
  refine ⟨M0, H0, ρ, a, R, ea, fun x H1 s1 r1 => ⟨M0, H0, ρ, b, R.mono s1, eb, fun y H2 s2 r2 => ?_⟩⟩
  cases a <;> try (cases e''; done)
  cases b <;> try (cases e''; done)
  rename_i i j
  obtain ⟨l, rfl⟩ := iteS e''
  cases r1
  cases r2
  exact ⟨i, j, rfl, rfl, ⟨l.1, l.2.1, l.2.2.1, l.2.2.2.1, by omega⟩, fun q' np => q _ _ ((s1.trans s2).trans (smN np)) (.lst upd_same (((R.mono (s1.trans s2)).domu μ).not np) (by rw [rgV_length]; exact szR (by omega)) (rgV_rp2 i j))⟩
/-- a new list that may be made by looking at lists of one's own -/
def wFr (f : EF) : WP D := ⟨fun ρ b Q => ∃ ds, f (shutR false ρ) = some (.list ds) ∧ nlAll ds = true ∧ Q (.list ds) b, fun h ⟨d, e, n, q⟩ => ⟨d, e, n, h _ _ q⟩⟩
theorem nFr {f : EF} {σ : L2.St} {H : Hp} {Q : VK} (q : tn (wFr f) σ H Q) : tN f σ H Q := by
  obtain ⟨g, M0, H0, ρ, b, R, ds, e, n, q⟩ := q
  refine ⟨_, H, _, ds, R.rs false, e, fun p vs H' np s eH l r => q _ H' (.of s) (Pl.same R.iv s) (.lst eH ((R.domu true).not np) l ((r.reM (M' := M0) fun a m => .inl (.inl (.inl (.inl m)))).nl n fun a m => ?_))⟩
  rcases m with m | ⟨_, i, ds, e1, e2⟩
  · exact .inl m
  · obtain ⟨p, vs, x, y, _⟩ := (R.mono s).own i ds e1
    rw [e2] at x
    cases x
    exact .inr ⟨_, y⟩
theorem nS_lcL {st : Stmt} {i : Nat} {it : Rho → Option (List D)} {p : Pat} {c : Rho → Option Bool} {f : EF} {vs : List Nat} {μi pr : Bool} (h : PS X st (tAsg (tLc (iD true pr it) (gP K p) (tT c) (tD μi f) vs) (gName i))) (hp : p.fits pr = true := by rfl) (hs : ∀ j, j ∈ slP p → j ∈ vs := by decide) : PS X st (tSn (swAsg (.nm i) (wFr (eLc true vs it p c f)))) :=
  nS_asg (K := K) (h.wk fun Dn σ H q => nLc hp hs (nFr q))
/-- a, b = two new lists, through a tuple -/
def swParT (i j : Nat) (f g : EF) : WP Out := ⟨fun ρ b Q => ∃ ds es, f (shutR true ρ) = some (.list ds) ∧ g (shutR true ρ) = some (.list es) ∧ i < ρ.length ∧ j < ρ.length ∧ i ≠ j ∧ Q (.nx ((ρ.set i (some (.own ds))).set j (some (.own es)))) b, fun h ⟨ds, es, a, b, c, d, n, q⟩ => ⟨ds, es, a, b, c, d, n, h _ _ q⟩⟩
theorem nS_parT {st : Stmt} {i j : Nat} {f g : EF} (h : PS X st (tAsg (tTupF (tCons (tN f) (tCons (tN g) tNil))) (gP K (.tp (.cons (.nm i) (.cons (.nm j) .nil)))))) : PS X st (tSn (swParT i j f g)) := h.wk fun Dn σ H q => by
  obtain ⟨pl, M0, H0, ρ, b, R, ds, es, ef, eg, hi, hj, hij, q⟩ := q
  have Rs1 := R.rs true
  refine ⟨_, H, _, ds, Rs1, ef, fun p1 vs H1 np1 s1 eH1 l1 r1 => ?_⟩
  have no : ∀ a, Mu true (fun a => Mu true M0 σ ρ a ∨ a = p1) σ (shutR true ρ) a → Mu true M0 σ ρ a ∨ a = p1 := fun a m => by
    rcases m with m | ⟨_, i, ds, e, _⟩
    · exact m
    · exact (shut_nown e).elim
  have Rs2 : Rs (fun a => Mu true M0 σ ρ a ∨ a = p1) H1 H1 σ (shutR true ρ) := by
    refine ⟨Same.refl _, fun p m => ?_, Rs1.len, fun k d e => ?_, fun k ds e => (shut_nown e).elim, Rs1.raw, fun k l a b p e => (shut_nown e).elim⟩
    · rcases m with m | rfl
      · exact ((R.domu true).mono s1) p m
      · rw [eH1]; intro z; cases z
    · obtain ⟨v, a, c⟩ := Rs1.dat k d e
      refine ⟨v, a, (c.reM fun a m => ?_).mono (.of s1)⟩
      rcases no a m with m | rfl
      · exact .inl (.inl m)
      · exact .inr np1
  refine ⟨_, H1, _, es, Rs2, eg, fun p2 ws H2 np2 s2 eH2 l2 r2 => ?_⟩
  refine ⟨by show 2 ≤ sizeLine; decide, fun p3 H3 np3 s3 t3 => ⟨p3, _, rfl, t3.sq, rfl, _, _, rfl, _, _, rfl, rfl, ?_⟩⟩
  obtain ⟨R1, st1⟩ := R.ownNew (i := i) hi np1 (.of s1) (Pl.same R.iv s1) eH1 l1 (r1.reM fun a m => by
    rcases m with m | rfl
    · exact .inl (.inl (.inl m))
    · exact .inl (.inr rfl))
  obtain ⟨R2, st2⟩ := R1.ownNew (i := j) (by rw [List.length_set]; exact hj) np2 (.of s2) (Pl.same R1.iv s2) eH2 l2 (r2.reM fun a m => by
    rcases m with m | rfl
    · refine .inl (.inl (.inl ?_))
      rcases m with m | ⟨_, k, es', e1, e2⟩
      · exact .inl (.inl m)
      · rcases set_get e1 with ⟨rfl, _⟩ | ⟨n, e1⟩
        · rw [set_same (by rw [← R.len]; exact hi)] at e2
          cases e2
          exact .inr rfl
        · rw [set_other n] at e2
          exact .inl (.inr ⟨rfl, k, es', e1, e2⟩)
    · exact .inl (.inr rfl))
  exact q _ H3 (R2.mono s3) ((st1.trans st2).trans ⟨.of s3, fun p m => .inl m⟩)
/-- a, b = a list of two -/
def swAsgL (ps : Pats) (f : WP D) : WP Out := ⟨fun ρ b Q => f.w ρ b fun d b' => ∃ ds ρ1, d = .list ds ∧ bindPs ps ds ρ = some ρ1 ∧ Q (.nx ρ1) b', fun h z => f.m (fun d b' ⟨ds, ρ1, e, e1, y⟩ => ⟨ds, ρ1, e, e1, h _ _ y⟩) z⟩
theorem nS_asgL {st : Stmt} {ps : Pats} {f : WP D} (h : PS X st (tAsg (tn f) (gLst K ps.len (gPs K ps)))) : PS X st (tSn (swAsgL ps f)) := h.wk fun Dn σ H q => by
  obtain ⟨g, M0, H0, ρ, b, R, q⟩ := q
  refine ⟨g, M0, H0, ρ, b, R, f.m (fun d b' ⟨ds, ρ1, e, e1, q⟩ v H1 k1 i1 r1 => ?_) q⟩
  subst e
  cases r1
  rename_i a xs t n l r
  exact ⟨_, xs, rfl, SqL.of t, by rw [r.len]; exact bindPs.len e1, bindPs.okN (R.up k1 i1) r e1 fun σ1 R1 B1 => q σ1 H1 R1 ((R.stp k1).trans ⟨.refl, fun p m => .inl (B1.mu p m)⟩)⟩
def sAsgL (ps : Pats) (f : EF) : Rho → Option Out := fun ρ => (f ρ).bind fun d => match d with
  | .list ds => (bindPs ps ds ρ).map .nx
  | _ => none
theorem dS_asgL {st : Stmt} {ps : Pats} {f : EF} (h : PS X st (tAsg (tD true f) (gLst K ps.len (gPs K ps)))) : PS X st (tS (sAsgL ps f)) := h.wk fun Dn σ H q => by
  obtain ⟨M0, H0, ρ, o, R, e, q⟩ := q
  obtain ⟨d, ed, e'⟩ := some_bind e
  clear e
  refine ⟨M0, H0, ρ, d, R, ed, fun v H1 s1 r1 => ?_⟩
  cases d <;> try (cases e'; done)
  obtain ⟨ρ1, e1, rfl⟩ := some_map e'
  cases r1
  rename_i a xs t n l r
  exact ⟨_, xs, rfl, SqL.of t, by rw [r.len]; exact bindPs.len e1, bindPs.ok (R.mono s1) r e1 fun σ1 R1 B1 => q σ1 H1 R1 ⟨.of s1, fun p m => .inl (B1.mu p m)⟩⟩
theorem ev_asgL {ps : Pats} {f : EF} {g : Rho → Option Out} {ρ ρ' : Rho} {ds : List D} (hf : f ρ = some (.list ds)) (hb : bindPs ps ds ρ = some ρ') : sSeq (sAsgL ps f) g ρ = g ρ' := by
  unfold sSeq sAsgL
  rw [hf]
  show ((bindPs ps ds ρ).map Out.nx).bind _ = _
  rw [hb]
  rfl
/-- a walk over a list that is drawn -/
def lisI : D → Option (List D)
  | .list ds => some ds
  | _ => none
theorem nI_lst {tg e : Expr} {f : WP D} (h : PE X e (tn f)) : PI X tg e (inn false (wB f lisI)) := (pi_list h).wk fun σ H R q => by
  obtain ⟨p, M0, H0, ρ, b, Rr, q⟩ := q
  refine ⟨p, M0, H0, ρ, b, Rr, f.m (fun d b1 ⟨ds, e, q⟩ v H1 k1 i1 r1 => ?_) q⟩
  cases d <;> try (cases e; done)
  cases e
  cases r1 with
  | lst t n l r => exact ⟨_, rfl, ⟨_, SqL.of t⟩, q _ _ k1 i1 fun M' hM => DW.lst t (nM hM n t) l (r.reM hM)⟩
/-- a statement that is never come to -/
def sNo : Rho → Option Out := fun _ => none
theorem dS_no {st : Stmt} : PS X st (tS sNo) := ⟨fun pn s σ H Q I q => by
  obtain ⟨M0, H0, ρ, o, R, e, q⟩ := q
  cases e⟩
end
end Dl
namespace Dl
open PySem PySem.Spec PyProof.Rows L2 Rt
/-! ### t.index(z), the least and the greatest of a tuple -/
def strsD : List D → Option (List Str)
  | [] => some []
  | .str z :: ds => (strsD ds).map (z :: ·)
  | _ :: _ => none
def firstI (z : Str) : List Str → Option Nat
  | [] => none
  | y :: ys => if y = z then some 0 else (firstI z ys).map (· + 1)
def idxD : D → D → Option D
  | .tuple ds, .str z => (strsD ds).bind fun zs => (firstI z zs).map fun j => .int (j : Nat)
  | _, _ => none
theorem firstI.spec {z : Str} : ∀ {ys : List Str} {j : Nat}, firstI z ys = some j → ys[j]? = some z ∧ ∀ m, m < j → ys[m]? ≠ some z
  | [], _, h => nomatch h
  | y :: ys, j, h => by
    unfold firstI at h
    by_cases e : y = z
    · rw [if_pos e] at h
      cases h
      exact ⟨by rw [e]; rfl, fun m h => absurd h (Nat.not_lt_zero _)⟩
    · rw [if_neg e] at h
      obtain ⟨k, hk, rfl⟩ := some_map h
      have ih := firstI.spec hk
      refine ⟨ih.1, fun m hm => ?_⟩
      cases m with
      | zero => intro c; cases c; exact e rfl
      | succ m => exact ih.2 m (by omega)
theorem strsD.map (zs : List Str) : strsD (zs.map PyData.str) = some zs := by
  induction zs with
  | nil => rfl
  | cons z zs ih =>
    show (strsD (zs.map PyData.str)).map _ = _
    rw [ih]
    rfl
theorem firstI.has {z : Str} : ∀ {ys : List Str}, z ∈ ys → ∃ j, firstI z ys = some j ∧ j < ys.length
  | y :: ys, h => by
    unfold firstI
    by_cases e : y = z
    · exact ⟨0, if_pos e, by simp⟩
    · rw [if_neg e]
      rcases List.mem_cons.mp h with h | h
      · exact absurd h.symm e
      · obtain ⟨j, hj, l⟩ := firstI.has h
        exact ⟨j + 1, by rw [hj]; rfl, by rw [List.length_cons]; omega⟩
theorem RpAll.strs {M : Addr → Prop} {H : Hp} : ∀ {vs : List V} {ds : List D} {zs : List Str}, RpAll M H vs ds → strsD ds = some zs → vs = zs.map V.str
  | _, _, _, .nil, h => by cases h; rfl
  | _, _, _, .cons (d := d) r rr, h => by
    cases r <;> try (cases h; done)
    rename_i x hx
    obtain ⟨zs, hz, rfl⟩ := some_map (show (strsD _).map _ = _ from h)
    rw [rr.strs hz]
    rfl
section
variable {X : Cx}
theorem dE_idx {ob e : Expr} {apos cpos : Pos} {f1 f2 : EF} {μ : Bool} (ho : PE X ob (tD μ f1)) (ha : PE X e (tD μ f2))
    (hbase : attributeBase ob "index" X.env (eval ob X.env) = eval ob X.env := by rfl)
    (hfew : ((backTo cpos (starEach [e] X.env)).all (fun x => !x.1) && (backToKw cpos (keywordEach [] X.env)).all (fun x => x.1.isSome) && decide (([e] : List Expr).length + ([] : List Keyword).length + (if ([] : List Keyword).isEmpty then 0 else 1) < 30)) = true := by rfl)
    (hline : (apos.endLine == cpos.line) = true := by rfl) (hs : starEach [e] X.env = (false, eval e X.env) :: starEach [] X.env := by rfl) (hplain : (backTo cpos (starEach [] X.env)).any (·.1) = false := by rfl) :
    PE X (.Call (.Attribute ob "index" apos) [e] [] cpos) (tD μ (e2 idxD f1 f2)) := (pe_idxF ho (dA_cons ha dA_nil hs) hbase hfew hline hs hplain).wk fun σ H Q q => by
  obtain ⟨M0, H0, ρ, d, R, e, q⟩ := q
  obtain ⟨a, ea, e⟩ := some_bind e
  obtain ⟨b, eb, e⟩ := some_bind e
  refine ⟨M0, H0, ρ, a, R, ea, fun x H1 s1 r1 => ?_⟩
  match a, b, e, r1 with
  | .tuple ds, .str z, e, .tup t n l r =>
    obtain ⟨zs, ez, e⟩ := some_bind (show (strsD ds).bind _ = some d from e)
    obtain ⟨j, hj, rfl⟩ := some_map e
    have ev := r.strs ez
    subst ev
    obtain ⟨o, ho, od⟩ := t
    refine ⟨_, o, zs, rfl, ho, od, M0, H0, ρ, [.str z], R.mono s1, ?_, fun vs H2 s2 r2 => ?_⟩
    · show (f2 ρ).bind _ = _
      rw [eb]
      rfl
    · match vs, r2 with
      | [_], .cons (.str _ _) .nil =>
        exact ⟨z, j, rfl, SqT.frz (s2 _ _ ho), (firstI.spec hj).1, (firstI.spec hj).2, q _ _ (s1.trans s2) (.int _)⟩
def minTD : List D → Option D
  | [.tuple ds] => ((intsD ds).bind leastI).map .int
  | _ => none
def maxTD : List D → Option D
  | [.tuple ds] => ((intsD ds).bind mostI).map .int
  | _ => none
theorem c_minT (hc : X.calm = true) (hu : X.A.units + 64 < cLine) : CallR X (.builtin "min") (rC minTD) := by
  intro pn s σ H xs us Q I r h
  obtain ⟨M, ds, d, dm, ra, e, q⟩ := h
  match ds, ra, e with
  | [.tuple ds], .cons (.tup t n l rr) .nil, e =>
    obtain ⟨m, em, rfl⟩ := some_map (show ((intsD ds).bind leastI).map PyData.int = some d from e)
    obtain ⟨ns, en, em⟩ := some_bind em
    have hv := rr.ints en
    subst hv
    refine cr_minT hc hu pn s σ H _ us Q I r ⟨_, ns, rfl, t.sq, ?_, fun m' hm hl => ?_⟩
    · cases ns with
      | nil => cases em
      | cons _ _ => simp
    · have : m' = m := by
        cases ns with
        | nil => cases em
        | cons x xs =>
          have e2 := foldl_least xs x m' hm hl
          have em : some (xs.foldl (fun a b => if b < a then b else a) x) = some m := em
          rw [e2] at em
          cases em
          rfl
      subst this
      exact q _ _ (Same.refl _) (.int _)
theorem c_maxT (hc : X.calm = true) (hu : X.A.units + 64 < cLine) : CallR X (.builtin "max") (rC maxTD) := by
  intro pn s σ H xs us Q I r h
  obtain ⟨M, ds, d, dm, ra, e, q⟩ := h
  match ds, ra, e with
  | [.tuple ds], .cons (.tup t n l rr) .nil, e =>
    obtain ⟨m, em, rfl⟩ := some_map (show ((intsD ds).bind mostI).map PyData.int = some d from e)
    obtain ⟨ns, en, em⟩ := some_bind em
    have hv := rr.ints en
    subst hv
    refine cr_maxT hc hu pn s σ H _ us Q I r ⟨_, ns, rfl, t.sq, ?_, fun m' hm hl => ?_⟩
    · cases ns with
      | nil => cases em
      | cons _ _ => simp
    · have : m' = m := by
        cases ns with
        | nil => cases em
        | cons x xs =>
          have e2 := foldl_most xs x m' hm hl
          have em : some (xs.foldl (fun a b => if b > a then b else a) x) = some m := em
          rw [e2] at em
          cases em
          rfl
      subst this
      exact q _ _ (Same.refl _) (.int _)
theorem intsD.map (ns : List Int) : intsD (ns.map PyData.int) = some ns := by
  induction ns with
  | nil => rfl
  | cons n ns ih =>
    show (intsD (ns.map PyData.int)).map _ = _
    rw [ih]
    rfl
/-! a, b, c = x, y, z -/
def sPar3 (i j k : Nat) (f : Rho → Option (List D)) : Rho → Option Out := fun ρ => (f ρ).bind fun ds => match ds with
  | [a, b, c] => some (.nx (((ρ.set i (some (.dat a))).set j (some (.dat b))).set k (some (.dat c))))
  | _ => none
theorem dS_par3 {st : Stmt} {i j k : Nat} {f : Rho → Option (List D)} (h : PS X st (tPar3 i j k (tA true f))) : PS X st (tS (sPar3 i j k f)) := h.wk fun Dn σ H q => by
  obtain ⟨M0, H0, ρ, o, R, e, q⟩ := tS_iff.mp q
  obtain ⟨ds, ed, e⟩ := some_bind e
  refine ⟨M0, H0, ρ, ds, R, ed, fun vs H1 s1 r1 => ?_⟩
  match ds, vs, r1, e with
  | [a, b, c], [v, w, u], .cons ra (.cons rb (.cons rc .nil)), e =>
    cases e
    have sh : ∀ a', Mu true M0 (σ.set i (some v)) (ρ.set i (some (.dat a))) a' → Mu true M0 σ ρ a' := Mu.shrink fun ds e => by cases e
    have R1 := (R.mono s1).set (i := i) ra
    have R2 := R1.set (i := j) (rb.reM fun a m => .inl (sh a m))
    have sh2 : ∀ a', Mu true M0 ((σ.set i (some v)).set j (some w)) ((ρ.set i (some (.dat a))).set j (some (.dat b))) a' → Mu true M0 σ ρ a' := fun p m => sh p (Mu.shrink (fun ds e => by cases e) p m)
    have R3 := R2.set (i := k) (rc.reM fun a m => .inl (sh2 a m))
    refine ⟨v, w, u, rfl, q _ _ R3 ((Stp.of s1).trans ⟨.refl, fun p m => .inl (sh2 p (Mu.shrink (fun ds e => by cases e) p m))⟩)⟩
theorem ev_par3 {i j k : Nat} {f : Rho → Option (List D)} {g : Rho → Option Out} {ρ : Rho} {a b c : D} (h : f ρ = some [a, b, c]) : sSeq (sPar3 i j k f) g ρ = g (((ρ.set i (some (.dat a))).set j (some (.dat b))).set k (some (.dat c))) := by
  unfold sSeq sPar3
  rw [h]
  rfl
end
end Dl
namespace Dl
open PySem PySem.Spec PyProof.Rows L2 Rt
/-! ### texts: a sign by its place, signs joined, texts in their order -/
def ixX : D → D → Option D
  | .str z, .int i => (L2.atI z.cps.toList i).map fun c => .str ⟨#[c]⟩
  | a, b => ixD a b
def chrsD : List D → Option (List Nat)
  | [] => some []
  | .str z :: ds => match z.cps.toList with
    | [c] => (chrsD ds).map (c :: ·)
    | _ => none
  | _ :: _ => none
def joinC : D → Option D
  | .list ds => (chrsD ds).bind fun cs => if cs.length ≤ 1000 then some (.str ⟨cs.toArray⟩) else none
  | _ => none
theorem chrsD.map : ∀ cs : List Nat, chrsD (cs.map fun c => PyData.str ⟨#[c]⟩) = some cs
  | [] => rfl
  | c :: cs => by
    show (chrsD (cs.map fun c => PyData.str ⟨#[c]⟩)).map _ = _
    rw [chrsD.map cs]
    rfl
theorem join_c : ∀ cs : List Nat, Txt.join (⟨#[]⟩ : Str) (cs.map fun c => (⟨#[c]⟩ : Str)) = ⟨cs.toArray⟩ := by
  intro cs
  rw [TL.join_eq]
  induction cs with
  | nil => rfl
  | cons c r ih =>
    cases r with
    | nil => rfl
    | cons d r =>
      show (⟨#[c]⟩ : Str) ++ ⟨#[]⟩ ++ Str.join ⟨#[]⟩ ((d :: r).map fun c => (⟨#[c]⟩ : Str)) = _
      rw [ih]
      show (⟨(#[c] ++ #[]) ++ (d :: r).toArray⟩ : Str) = ⟨(c :: d :: r).toArray⟩
      simp
theorem RpAll.chrs {M : Addr → Prop} {H : Hp} : ∀ {vs : List V} {ds : List D} {cs : List Nat}, RpAll M H vs ds → chrsD ds = some cs → vs = (cs.map fun c => (⟨#[c]⟩ : Str)).map V.str
  | _, _, _, .nil, h => by cases h; rfl
  | _, _, _, .cons (d := d) (ds := ds) r rr, h => by
    cases r <;> try (cases h; done)
    rename_i x hx
    have h : (match x.cps.toList with | [c] => (chrsD ds).map (c :: ·) | _ => none) = some _ := h
    split at h
    · rename_i c hc
      obtain ⟨cs, hz, rfl⟩ := some_map h
      rw [rr.chrs hz]
      have : x = ⟨#[c]⟩ := by
        cases x
        rename_i a
        have : a = #[c] := by
          rw [← Array.toArray_toList (xs := a)]
          exact congrArg List.toArray hc
        rw [this]
      rw [this]
      rfl
    · cases h
section
variable {X : Cx} {K : PySem.W.Frag}
theorem i_ixX : IxR X (rD ixX) := by
  intro ve sl pn s σ H x y v u Q I rx ry h hs
  obtain ⟨M, a, b, d, dm, ra, rb, e, q⟩ := h
  by_cases hz : ∃ z i, a = .str z ∧ b = .int i
  · obtain ⟨z, i, rfl, rfl⟩ := hz
    obtain ⟨c, hc, rfl⟩ := some_map (show (L2.atI z.cps.toList i).map _ = some d from e)
    cases ra
    rename_i hz
    cases rb
    exact ix_str ve sl pn s σ H _ _ v u Q I rx ry ⟨z, i, c, rfl, rfl, hz, hc, q _ H (Same.refl _) (.str _ (by show 1 ≤ sizeLine; decide))⟩ hs
  · refine i_ix ve sl pn s σ H x y v u Q I rx ry ⟨M, a, b, d, dm, ra, rb, ?_, q⟩ hs
    unfold ixX at e
    split at e
    · exact (hz ⟨_, _, rfl, rfl⟩).elim
    · exact e
theorem dE_ixX {a b : Expr} {pos : Pos} {f1 f2 : EF} {μ : Bool} (ha : PE X a (tD μ f1)) (hb : PE X b (tD μ f2)) (hp : PlainIx b := by exact fun _ _ => rfl) : PE X (.Subscript a b pos) (tD μ (e2 ixX f1 f2)) := (pe_ix i_ixX ha hb hp).wk fun _ _ _ q => dOp2 q
theorem nE_ixX {a b : Expr} {pos : Pos} {f1 f2 : WP D} (ha : PE X a (tn f1)) (hb : PE X b (tn f2)) (hp : PlainIx b := by exact fun _ _ => rfl) : PE X (.Subscript a b pos) (tn (w2 f1 f2 ixX)) := (pe_ix i_ixX ha hb hp).wk fun _ _ _ q => nOp2 q
theorem nE_join {o e : Expr} {apos pos : Pos} {f : WP D} (ho : PE X o (tC (.str (Str.ofString "")))) (he : PE X e (tn f)) (hs : starEach [e] X.env = [(false, eval e X.env)] := by rfl) (hbase : attributeBase o "join" X.env (eval o X.env) = eval o X.env := by rfl) (hline : (apos.endLine == pos.line) = true := by rfl) :
    PE X (.Call (.Attribute o "join" apos) [e] [] pos) (tn (wB f joinC)) := (pe_join ho he hs hbase hline).wk fun σ H Q q => by
  obtain ⟨p, M0, H0, ρ, b, R, q⟩ := q
  refine ⟨⟨_, rfl⟩, p, M0, H0, ρ, b, R, f.m (fun d b1 ⟨r, e, q⟩ y H2 k2 i2 r2 => ?_) q⟩
  obtain ⟨ds, rfl⟩ : ∃ ds, d = .list ds := by cases d <;> first | exact ⟨_, rfl⟩ | cases e
  obtain ⟨cs, hc, e⟩ := some_bind (show (chrsD ds).bind _ = some r from e)
  obtain ⟨hl, rfl⟩ := iteS e
  cases r2 with
  | lst t n l rr =>
    have hv := rr.chrs hc
    subst hv
    refine ⟨_, _, cs.map fun c => (⟨#[c]⟩ : Str), rfl, rfl, .inl (SqL.of t), ?_, ?_⟩
    · show ((cs.map (fun c => (⟨#[c]⟩ : Str))).map (·.length)).sum + (cs.map (fun c => (⟨#[c]⟩ : Str))).length * 0 ≤ 16777216
      rw [List.map_map, show ((fun x : Str => x.length) ∘ fun c => (⟨#[c]⟩ : Str)) = fun _ => 1 from rfl, List.map_const', List.sum_replicate_nat]
      omega
    · rw [show Str.ofString "" = ⟨#[]⟩ from rfl, join_c]
      exact q _ H2 k2 i2 (.str _ (by show cs.toArray.size ≤ sizeLine; rw [List.size_toArray]; exact sz (by omega)))
/-- sorted, of texts: the same ones in some order -/
def wSorS (f : WP (List D)) : WP D := ⟨fun ρ b Q => f.w ρ b fun ds b' => ∃ zs : List Str, ds = [.list (zs.map .str)] ∧ zs.length < 64 ∧ ∀ ys : List Str, ys.Perm zs → Q (.list (ys.map .str)) b', fun h z => f.m (fun ds b' ⟨zs, e, l, q⟩ => ⟨zs, e, l, fun ys p => h _ _ (q ys p)⟩) z⟩
theorem RpAll.strL {M : Addr → Prop} {H : Hp} : ∀ {vs : List V} {zs : List Str}, RpAll M H vs (zs.map .str) → vs = zs.map V.str ∧ ∀ z ∈ zs, z.length ≤ sizeLine
  | _, [], .nil => ⟨rfl, fun z h => nomatch h⟩
  | _, z :: zs, .cons r rr => by
    obtain ⟨e, h⟩ := rr.strL
    cases r
    rename_i hz
    subst e
    exact ⟨rfl, fun y hy => by
      rcases List.mem_cons.mp hy with rfl | hy
      · exact hz
      · exact h y hy⟩
theorem strs_rp {M : Addr → Prop} {H : Hp} : ∀ {zs : List Str}, (∀ z ∈ zs, z.length ≤ sizeLine) → RpAll M H (zs.map V.str) (zs.map PyData.str)
  | [], _ => .nil
  | z :: zs, h => .cons (.str z (h z (by simp))) (strs_rp fun y hy => h y (by simp [hy]))
theorem nE_sorS {e : Expr} {p pos : Pos} {f : WP (List D)} (hg : Gl X "sorted") (hm : X.mg "sorted" = none) (ha : PA X [e] (tnA f)) (he : starEach [e] X.env = (false, eval e X.env) :: starEach [] X.env := by rfl) (hpl : (backTo pos (starEach [] X.env)).any (·.1) = false := by rfl) :
    PE X (.Call (.Name "sorted" p) [e] [] pos) (tn (wSorS f)) := (pe_callB cr_sortedS hg hm (by decide +kernel) ha (by decide) (by decide) he hpl).wk fun σ H Q q => by
  obtain ⟨g, M0, H0, ρ, b, R, q⟩ := q
  refine ⟨g, M0, H0, ρ, b, R, f.m (fun ds b1 ⟨zs, e, l64, q⟩ vs H1 k1 i1 r1 => ?_) q⟩
  subst e
  match vs, r1 with
  | [_], .cons (.lst t n l rr) .nil =>
    obtain ⟨e, hz⟩ := rr.strL
    subst e
    refine ⟨_, zs, rfl, SqL.of t, l64, fun ys a perm _ na => ?_⟩
    exact q ys perm _ _ (k1.tr (.of (smN na))) (Pl.same i1 (smN na)) (.lst upd_same (((R.up k1 i1).domu true).not na) (by rw [List.length_map, perm.length_eq]; exact small64 l64) (strs_rp fun y hy => hz y (perm.mem_iff.mp hy)))
end
end Dl
namespace Dl
open PySem PySem.Spec PyProof.Rows L2 Rt
def S (x : String) : D := .str (Str.ofString x)
theorem rgD_len (lo : Int) (n : Nat) : (rgD lo n).length = n := by unfold rgD; rw [List.length_map, List.length_range]
theorem rgD_get {lo : Int} {n j : Nat} (h : j < n) : (rgD lo n)[j]? = some (.int (lo + j)) := by
  unfold rgD
  rw [List.getElem?_map, List.getElem?_range h]
  rfl
def LET : List Nat := (Str.ofString "abcdefghijklmnopqrstuvwxyz").cps.toList
theorem cut1 {α : Type} (xs : List α) : cutD xs (some 1) none = xs.drop 1 := by
  unfold cutD
  rw [HT.sIx_none, show (some (1 : Int)) = some ((1 : Nat) : Int) from rfl, HT.sIx_nat]
  cases xs with
  | nil => rfl
  | cons x r =>
    rw [show min 1 (x :: r).length = 1 by simp]
    exact List.take_of_length_le (by simp)
theorem zp_zip : ∀ (as bs : List D), zpGo as bs = (as.zip bs).map fun x => .tuple [x.1, x.2]
  | [], bs => by cases bs <;> rfl
  | a :: as, [] => rfl
  | a :: as, b :: bs => by
    show PyData.tuple [a, b] :: zpGo as bs = _
    rw [zp_zip as bs]
    rfl
theorem ints_eq : ∀ {ds : List D} {ns : List Int}, intsD ds = some ns → ds = ns.map .int
  | [], _, e => by cases e; rfl
  | .int i :: ds, _, e => by
    obtain ⟨r, er, rfl⟩ := some_map e
    rw [ints_eq er]
    rfl
  | .none :: _, _, e => nomatch e
  | .bool _ :: _, _, e => nomatch e
  | .str _ :: _, _, e => nomatch e
  | .list _ :: _, _, e => nomatch e
  | .tuple _ :: _, _, e => nomatch e
  | .dict _ :: _, _, e => nomatch e
theorem cut_to {α : Type} {xs : List α} {m : Nat} (h : m ≤ xs.length) : cutD xs none (some (m : Int)) = xs.take m := by
  unfold cutD
  rw [HT.sIx_none, HT.sIx_nat, List.drop_zero, Nat.sub_zero, Nat.min_eq_left h]
theorem cut_fr {α : Type} {xs : List α} {m : Nat} (h : m ≤ xs.length) : cutD xs (some (m : Int)) none = xs.drop m := by
  unfold cutD
  rw [HT.sIx_none, HT.sIx_nat, Nat.min_eq_left h, List.take_of_length_le (by rw [List.length_drop]; omega)]
theorem ev_cons {f : EF} {g : Rho → Option (List D)} {ρ : Rho} {d : D} {ds : List D} (h1 : f ρ = some d) (h2 : g ρ = some ds) : aCons f g ρ = some (d :: ds) := by
  unfold aCons
  rw [h1]
  show (g ρ).map _ = _
  rw [h2]
  rfl
/-- some thing of such a sort, by at most so many draws -/
def gAny (c : Nat) (pre : List D → Prop) (post : List D → D → Prop) : GF := ⟨fun ds n Q => pre ds ∧ c ≤ n ∧ ∀ d n', post ds d → n ≤ n' + c → Q d n', fun h ⟨a, b, q⟩ => ⟨a, b, fun d n' p l => h _ _ (q d n' p l)⟩⟩
def gNext : GF := gAny 1 (fun ds => ∃ b : Int, ds = [.int b] ∧ 0 < b ∧ b < 2 ^ 60) (fun ds d => ∃ b v : Int, ds = [.int b] ∧ d = .int v ∧ 0 ≤ v ∧ v < b)
def gOne : GF := gAny 1 (fun ds => ∃ w items, ds = [w] ∧ seqD w = some items ∧ 0 < items.length ∧ items.length ≤ 1000) (fun ds d => ∃ w items, ds = [w] ∧ seqD w = some items ∧ d ∈ items)
theorem kp_own {g : Gd} {H H' : Hp} (k : Kp g H H') : KpM g.own H H' := fun p o n e => k p o (fun z => n (.inl z)) (fun z => n (.inr (.inr z))) e
section
variable {P : Program} {w : World} {K : PySem.W.Frag} {mg : Str → Option Value} {base : Heap}
theorem ok_nextN {f : Addr} {fd : FuncData} {k : Nat} {ps : List Str} (F : FnOk P w K mg base CX0 k f fd ps spNext) : FnOk P w K mg base CX0 k f fd ps (spN 1 gNext) := F.wk fun vs H Q E h => by
  obtain ⟨g, M, ws, ds, n, rfl, pl, dm, iv, r, l, ⟨b, rfl, b0, b1⟩, hn, q⟩ := h
  match ws, r with
  | [_], .cons (.int _) .nil =>
    exact ⟨g, n, b, rfl, iv, hn, b0, b1, fun v H' v0 v1 F' K' => q (.int v) (n - 1) ⟨b, v, rfl, rfl, v0, v1⟩ (by omega) (.int v) H' (kp_own K') F' (.int v)⟩
end
theorem wNext {i : Nat} {e : EF} {ρ : Rho} {b : Nat} {Q : D → Nat → Prop} {m : Int} (hp : ρ[i]? = some (some .pool)) (he : e (shutR true ρ) = some (.int m)) (h0 : 0 < m) (h1 : m < 2 ^ 60) (hb : 1 ≤ b) (q : ∀ v n', 0 ≤ v → v < m → b ≤ n' + 1 → Q (.int v) n') : (wCall i 1 gNext (wCons (wP e) wNil)).w ρ b Q :=
  ⟨hp, .int m, he, _, rfl, rfl, ⟨m, rfl, h0, h1⟩, hb, fun d n' ⟨b', v, e1, e2, v0, v1⟩ hn => by
    cases e1
    subst e2
    exact q v n' v0 v1 hn⟩
theorem wOne {i : Nat} {e : EF} {ρ : Rho} {b : Nat} {Q : D → Nat → Prop} {x : D} {items : List D} (hp : ρ[i]? = some (some .pool)) (he : e (shutR true ρ) = some x) (hs : seqD x = some items) (h0 : 0 < items.length) (h1 : items.length ≤ 1000) (hb : 1 ≤ b) (q : ∀ d n', d ∈ items → b ≤ n' + 1 → Q d n') : (wCall i 1 gOne (wCons (wP e) wNil)).w ρ b Q :=
  ⟨hp, x, he, _, rfl, rfl, ⟨x, items, rfl, hs, h0, h1⟩, hb, fun d n' ⟨w', it', e1, e2, m⟩ hn => by
    cases e1
    rw [hs] at e2
    cases e2
    exact q d n' m hn⟩
theorem lst4 {α : Type} {a b c d : α} {i : Int} (h0 : 0 ≤ i) (h1 : i < 4) : ∃ x, L2.atI [a, b, c, d] i = some x ∧ (x = a ∨ x = b ∨ x = c ∨ x = d) := by
  obtain ⟨x, e, m, _⟩ := atI_in (xs := [a, b, c, d]) h0 h1
  exact ⟨x, e, by simpa using m⟩
theorem lst3 {α : Type} {a b c : α} {i : Int} (h0 : 0 ≤ i) (h1 : i < 3) : ∃ x, L2.atI [a, b, c] i = some x ∧ (x = a ∨ x = b ∨ x = c) := by
  obtain ⟨x, e, m, _⟩ := atI_in (xs := [a, b, c]) h0 h1
  exact ⟨x, e, by simpa using m⟩
/-- a comprehension each of whose things costs so much -/
theorem lcN_all {p : Pat} {f : WP D} {ρ : Rho} (c : Nat) (Pt : D → Prop) : ∀ (items : List D) (b : Nat) (Q : List D → Nat → Prop), items.length * c ≤ b →
    (∀ x ∈ items, ∀ b Q, c ≤ b → (∀ d n', Pt d → b ≤ n' + c → Q d n') → ∃ ρ1, bindP p x ρ = some ρ1 ∧ f.w ρ1 b Q) → (∀ r b', r.length = items.length → (∀ d ∈ r, Pt d) → b ≤ b' + items.length * c → Q r b') → lcN p wYes f ρ items b Q
  | [], b, Q, _, _, q => q [] b rfl (fun d m => nomatch m) (by simp)
  | x :: xs, b, Q, hb, hf, q => by
    have e : (x :: xs).length * c = xs.length * c + c := by rw [List.length_cons, Nat.add_mul, Nat.one_mul]
    rw [e] at hb q
    obtain ⟨ρ1, e1, w1⟩ := hf x (by simp) b (fun d b2 => lcN p wYes f ρ xs b2 fun r b3 => Q (d :: r) b3) (by omega) fun d n' pd hn => lcN_all c Pt xs n' _ (by omega) (fun y hy => hf y (by simp [hy])) fun r b' hl hr hb' => q (d :: r) b' (by rw [List.length_cons, List.length_cons, hl]) (fun z hz => by
      rcases List.mem_cons.mp hz with e | e
      · rw [e]; exact pd
      · exact hr z e) (by omega)
    exact ⟨ρ1, e1, w1⟩
/-- a comprehension that keeps some of its items -/
theorem lcN_some {i : Nat} {c : WP Bool} {ρ : Rho} (hi : i < ρ.length) (cst : Nat) : ∀ (items : List D) (b : Nat) (Q : List D → Nat → Prop), items.length * cst ≤ b →
    (∀ x ∈ items, ∀ b Q, cst ≤ b → (∀ k n', b ≤ n' + cst → Q k n') → c.w (ρ.set i (some (.dat x))) b Q) → (∀ r b', r.Sublist items → b ≤ b' + items.length * cst → Q r b') → (∀ x, (shutR true (ρ.set i (some (.dat x))))[i]? = some (some (.dat x))) → lcN (.nm i) c (wP (eVar i)) ρ items b Q
  | [], b, Q, _, _, q, _ => q [] b (List.Sublist.refl _) (by simp)
  | x :: xs, b, Q, hb, hc, q, hv => by
    have e : (x :: xs).length * cst = xs.length * cst + cst := by rw [List.length_cons, Nat.add_mul, Nat.one_mul]
    rw [e] at hb q
    refine ⟨ρ.set i (some (.dat x)), by unfold bindP; rw [if_pos hi], hc x (by simp) b _ (by omega) fun k n' hn => ?_⟩
    cases k with
    | true =>
      refine ⟨x, by unfold eVar; rw [hv x], ?_⟩
      exact lcN_some hi cst xs n' _ (by omega) (fun y hy => hc y (by simp [hy])) (fun r b' hs hb' => q _ b' (hs.cons₂ x) (by omega)) hv
    | false => exact lcN_some hi cst xs n' _ (by omega) (fun y hy => hc y (by simp [hy])) (fun r b' hs hb' => q _ b' (hs.cons x) (by omega)) hv
theorem iteB {c : Bool} {A B : Prop} (h1 : c = true → A) (h2 : c = false → B) : if c = true then A else B := by
  cases c with
  | true => exact h1 rfl
  | false => exact h2 rfl
theorem ev_lstX {g : Rho → Option (List D)} {ρ : Rho} {ds : List D} (h : g ρ = some ds) (hl : ds.length ≤ 1000) : eLst g ρ = some (.list ds) := by
  unfold eLst
  rw [h]
  exact if_pos (sz (by omega))
theorem ev_tupX {g : Rho → Option (List D)} {ρ : Rho} {ds : List D} (h : g ρ = some ds) (hl : ds.length ≤ 1000) : eTup g ρ = some (.tuple ds) := by
  unfold eTup
  rw [h]
  exact if_pos (sz (by omega))
theorem wIfAO {A B : Rho → Option Bool} {h : WP Bool} {T E : WP Out} {ρ : Rho} {b : Nat} {Q : Out → Nat → Prop} {x z : Bool} (Bn : Nat → Prop) (hA : A (shutR true ρ) = some x) (hB : B (shutR true ρ) = some z) (b0 : Bn b) (hh : h.w ρ b fun _ b' => Bn b') (thn : x = true → ∀ b', Bn b' → T.w ρ b' Q) (els : ∀ b', Bn b' → E.w ρ b' Q) : (swIf (wAnd (wP A) (wOr (wP B) h)) T E).w ρ b Q := by
  refine ⟨x, hA, ?_⟩
  cases x with
  | false => exact els b b0
  | true =>
    refine ⟨z, hB, ?_⟩
    cases z with
    | true => exact thn rfl b b0
    | false =>
      refine h.m (fun k b' hb => ?_) hh
      cases k with
      | true => exact thn rfl b' hb
      | false => exact els b' hb
theorem ev_sl {f : EF} {lo hi : Rho → Option (Option Int)} {ρ : Rho} {d r : D} {l h : Option Int} (h1 : f ρ = some d) (h2 : lo ρ = some l) (h3 : hi ρ = some h) (h4 : slD d l h = some r) : eSl f lo hi ρ = some r := by
  unfold eSl
  rw [h1]
  show (lo ρ).bind _ = _
  rw [h2]
  show (hi ρ).bind _ = _
  rw [h3]
  exact h4
theorem sl_to {xs : List D} {j : Nat} (h : j ≤ xs.length) : slD (.tuple xs) none (some (j : Int)) = some (.tuple (xs.take j)) := by
  show some (PyData.tuple (cutD xs none (some (j : Int)))) = _
  rw [cut_to h]
theorem sl_fr {xs : List D} {j : Nat} (h : j ≤ xs.length) : slD (.tuple xs) (some (j : Int)) none = some (.tuple (xs.drop j)) := by
  show some (PyData.tuple (cutD xs (some (j : Int)) none)) = _
  rw [cut_fr h]
theorem sl_fr1 {xs : List D} {j : Nat} (h : j + 1 ≤ xs.length) : slD (.tuple xs) (some ((j : Int) + 1)) none = some (.tuple (xs.drop (j + 1))) := by
  rw [show ((j : Int) + 1) = ((j + 1 : Nat) : Int) by omega]
  exact sl_fr h
theorem okD_str {z : Str} (h : PyData.strOk z = true) : okD (.str z) = true := by
  show (true && (PyData.strOk z && true)) = true
  rw [h]
  rfl
def NmG (z : Str) : Prop := 1 ≤ z.length ∧ z.length ≤ 8 ∧ ∀ c ∈ z.cps.toList, c ∈ LET
structure Sr where
  k : Str
  a : Int
  p : Int
  s : Int
  m : Int
structure Pt where
  k : Str
  l : Int
  g : Int
structure Wy where
  k : Str
  ps : List Pt
  kp : Str
  hs : List Int
  w : Int
structure Wd where
  n : Int
  ks : List Str
  ss : List Sr
  ws : List Wy
def Sr.d (x : Sr) : D := .tuple [.str x.k, .int x.a, .int x.p, .int x.s, .int x.m]
def Pt.d (x : Pt) : D := .tuple [.str x.k, .int x.l, .int x.g]
def Wy.d (x : Wy) : D := .tuple [.str x.k, .tuple (x.ps.map Pt.d), .str x.kp, .tuple (x.hs.map .int), .int x.w]
def Wd.d (x : Wd) : D := .tuple [.int x.n, .tuple (x.ks.map .str), .tuple (x.ss.map Sr.d), .tuple (x.ws.map Wy.d)]
structure Sr.ok (n : Int) (ks : List Str) (x : Sr) : Prop where
  k : x.k ∈ ks
  a0 : 0 ≤ x.a
  a1 : x.a ≤ 20
  p0 : 0 ≤ x.p
  p1 : x.p < n
  s0 : 0 ≤ x.s
  s1 : x.s ≤ 1000000
  m0 : 1 ≤ x.m
  m1 : x.m ≤ 9
structure Pt.ok (ks : List Str) (x : Pt) : Prop where
  k : x.k ∈ ks
  l0 : 0 ≤ x.l
  lg : x.l ≤ x.g
  g1 : x.g ≤ 20
structure Wy.ok (n : Int) (ks : List Str) (x : Wy) : Prop where
  k : x.k ∈ ks
  ps : ∀ p ∈ x.ps, p.ok ks
  p1 : 1 ≤ x.ps.length
  p3 : x.ps.length ≤ 3
  kp : x.kp = Str.ofString "oldest" ∨ x.kp = Str.ofString "youngest"
  hs : ∀ h ∈ x.hs, 0 ≤ h ∧ h < n
  hl : x.hs.length ≤ 6
  asc : x.hs.Pairwise (· < ·)
  w0 : 1 ≤ x.w
  w1 : x.w ≤ 6
structure Wd.ok (x : Wd) : Prop where
  n1 : 1 ≤ x.n
  n6 : x.n ≤ 6
  k1 : 1 ≤ x.ks.length
  k4 : x.ks.length ≤ 4
  ks : ∀ z ∈ x.ks, PyData.strOk z = true ∧ z.length ≤ 20
  kg : ∀ z ∈ x.ks, NmG z
  kr : x.ks.Pairwise fun a b => a.cps.toList < b.cps.toList
  sl : x.ss.length ≤ 6
  ss : ∀ s ∈ x.ss, s.ok x.n x.ks
  wl : x.ws.length ≤ 8
  ws : ∀ w ∈ x.ws, w.ok x.n x.ks
theorem map_inj {α : Type} {f : α → D} (h : ∀ {x y}, f x = f y → x = y) : ∀ {a b : List α}, a.map f = b.map f → a = b
  | [], [], _ => rfl
  | [], _ :: _, e => nomatch e
  | _ :: _, [], e => nomatch e
  | x :: a, y :: b, e => by
    have e := List.cons.inj (show f x :: a.map f = f y :: b.map f from e)
    rw [h e.1, map_inj h e.2]
theorem tup_inj {α : Type} {f : α → D} (h : ∀ {x y}, f x = f y → x = y) {a b : List α} (e : PyData.tuple (a.map f) = .tuple (b.map f)) : a = b := by
  injection e with e
  exact map_inj h e
theorem int_i {a b : Int} (h : PyData.int a = .int b) : a = b := by cases h; rfl
theorem str_i {a b : Str} (h : PyData.str a = .str b) : a = b := by cases h; rfl
theorem Sr.inj {x y : Sr} (h : x.d = y.d) : x = y := by
  cases x; cases y; cases h; rfl
theorem Pt.inj {x y : Pt} (h : x.d = y.d) : x = y := by
  cases x; cases y; cases h; rfl
theorem Wy.inj {x y : Wy} (h : x.d = y.d) : x = y := by
  cases x with
  | mk k ps kp hs w =>
    cases y with
    | mk k' ps' kp' hs' w' =>
      have h : PyData.tuple [.str k, .tuple (ps.map Pt.d), .str kp, .tuple (hs.map .int), .int w] = .tuple [.str k', .tuple (ps'.map Pt.d), .str kp', .tuple (hs'.map .int), .int w'] := h
      injection h with h
      injection h with h1 h
      injection h with h2 h
      injection h with h3 h
      injection h with h4 h
      injection h with h5 h
      cases str_i h1
      cases str_i h3
      cases int_i h5
      cases tup_inj Pt.inj h2
      cases tup_inj int_i h4
      rfl
theorem Wd.inj {x y : Wd} (h : x.d = y.d) : x = y := by
  cases x with
  | mk n ks ss ws =>
    cases y with
    | mk n' ks' ss' ws' =>
      have h : PyData.tuple [.int n, .tuple (ks.map .str), .tuple (ss.map Sr.d), .tuple (ws.map Wy.d)] = .tuple [.int n', .tuple (ks'.map .str), .tuple (ss'.map Sr.d), .tuple (ws'.map Wy.d)] := h
      injection h with h
      injection h with h1 h
      injection h with h2 h
      injection h with h3 h
      injection h with h4 h
      cases int_i h1
      cases tup_inj str_i h2
      cases tup_inj Sr.inj h3
      cases tup_inj Wy.inj h4
      rfl
structure Sem (α : Type) where
  enc : α → List D
  ok : α → Prop
  out : α → D
  fn : ∀ {x y}, ok x → ok y → enc x = enc y → out x = out y
noncomputable def Sem.f {α : Type} (S : Sem α) : List D → Option D := fun ds => @dite _ (∃ x, S.ok x ∧ S.enc x = ds) (Classical.propDecidable _) (fun h => some (S.out h.choose)) (fun _ => none)
theorem Sem.of {α : Type} {S : Sem α} {x : α} (h : S.ok x) : S.f (S.enc x) = some (S.out x) := by
  unfold Sem.f
  rw [dif_pos ⟨x, h, rfl⟩]
  congr 1
  have z : ∃ y, S.ok y ∧ S.enc y = S.enc x := ⟨x, h, rfl⟩
  exact S.fn z.choose_spec.1 h z.choose_spec.2
theorem Sem.get {α : Type} {S : Sem α} {ds : List D} {d : D} (h : S.f ds = some d) : ∃ x, S.ok x ∧ ds = S.enc x ∧ d = S.out x := by
  unfold Sem.f at h
  by_cases e : ∃ x, S.ok x ∧ S.enc x = ds
  · rw [dif_pos e] at h
    cases h
    exact ⟨_, e.choose_spec.1, e.choose_spec.2.symm, rfl⟩
  · rw [dif_neg e] at h
    cases h
theorem nat_i {a b : Nat} (h : PyData.int (a : Nat) = .int (b : Nat)) : a = b := by
  injection h with h
  omega
theorem at_map {α : Type} {f : α → D} {xs : List α} {j : Nat} {x : α} (h : xs[j]? = some x) : L2.atI (xs.map f) (j : Int) = some (f x) := atI_nat (by rw [List.getElem?_map, h]; rfl)
theorem ev_eIf {c : Rho → Option Bool} {f g : EF} {ρ : Rho} {b : Bool} {d : D} (hc : c ρ = some b) (h : (if b = true then f ρ else g ρ) = some d) : eIf c f g ρ = some d := by
  unfold eIf
  rw [hc]
  exact h
theorem ev_lcG {p : Pat} {f : EF} {ρ : Rho} {α : Type} {e t : α → D} : ∀ (xs : List α), (∀ x ∈ xs, ∃ ρ1, bindP p (e x) ρ = some ρ1 ∧ f ρ1 = some (t x)) → lcGo p oYes f ρ (xs.map e) = some (xs.map t)
  | [], _ => rfl
  | x :: xs, h => by
    obtain ⟨ρ1, e1, e2⟩ := h x (by simp)
    show (bindP p (e x) ρ).bind _ = _
    rw [e1]
    show (f ρ1).bind _ = _
    rw [e2]
    show (lcGo _ _ _ _ _).map _ = _
    rw [ev_lcG xs fun y hy => h y (by simp [hy])]
    rfl
theorem ev_lcGF {p : Pat} {c : Rho → Option Bool} {f : EF} {ρ : Rho} {α : Type} {e t : α → D} {k : α → Bool} : ∀ (xs : List α), (∀ x ∈ xs, ∃ ρ1, bindP p (e x) ρ = some ρ1 ∧ c ρ1 = some (k x) ∧ f ρ1 = some (t x)) → lcGo p c f ρ (xs.map e) = some ((xs.filter k).map t)
  | [], _ => rfl
  | x :: xs, h => by
    obtain ⟨ρ1, e1, e2, e3⟩ := h x (by simp)
    show (bindP p (e x) ρ).bind _ = _
    rw [e1]
    show (c ρ1).bind _ = _
    rw [e2]
    have ih := ev_lcGF xs fun y hy => h y (by simp [hy])
    cases hk : k x with
    | true =>
      rw [List.filter_cons_of_pos hk]
      show (f ρ1).bind _ = _
      rw [e3]
      show (lcGo _ _ _ _ _).map _ = _
      rw [ih]
      rfl
    | false =>
      rw [List.filter_cons_of_neg (by rw [hk]; decide)]
      show lcGo _ _ _ _ _ = _
      exact ih
def rgI (lo : Int) (n : Nat) : List Int := (List.range n).map fun (i : Nat) => lo + i
theorem rgI_asc (lo : Int) (n : Nat) : (rgI lo n).Pairwise (· < ·) := by
  unfold rgI
  refine List.pairwise_map.mpr (List.pairwise_lt_range.imp fun h => ?_)
  omega
theorem rgD_I (lo : Int) (n : Nat) : rgD lo n = (rgI lo n).map PyData.int := by
  unfold rgD rgI
  rw [List.map_map]
  rfl
theorem rgD_succ (lo : Int) (n : Nat) : rgD lo (n + 1) = .int lo :: rgD (lo + 1) n := by
  unfold rgD
  rw [List.range_succ_eq_map, List.map_cons, List.map_map]
  congr 1
  · simp
  · refine List.map_congr_left fun i _ => ?_
    show PyData.int (lo + ((i + 1 : Nat) : Int)) = PyData.int (lo + 1 + (i : Int))
    congr 1
    omega
theorem cho {α : Type} {f : α → D} {P : α → Prop} : ∀ {ds : List D}, (∀ d ∈ ds, ∃ x, d = f x ∧ P x) → ∃ xs : List α, ds = xs.map f ∧ ∀ x ∈ xs, P x
  | [], _ => ⟨[], rfl, fun x h => nomatch h⟩
  | d :: ds, h => by
    obtain ⟨x, rfl, px⟩ := h d (by simp)
    obtain ⟨xs, rfl, pxs⟩ := cho (ds := ds) fun d hd => h d (by simp [hd])
    exact ⟨x :: xs, rfl, fun y hy => by
      rcases List.mem_cons.mp hy with rfl | hy
      · exact px
      · exact pxs y hy⟩
theorem mem_str {zs : List Str} {k : D} (h : k ∈ zs.map PyData.str) : ∃ z, k = .str z ∧ z ∈ zs := by
  obtain ⟨z, hz, rfl⟩ := List.mem_map.mp h
  exact ⟨z, rfl, hz⟩
theorem wSmall {i : Int} (h : i.natAbs < 2 ^ 52) : (PyData.int i).weight ≤ 52 := by
  show (if i == 0 then 0 else i.natAbs.log2 + 1) ≤ 52
  split
  · omega
  · by_cases z : i.natAbs = 0
    · rw [z]; decide
    · have := (Nat.log2_lt z).mpr h
      omega
def Lf (d : D) : Prop := Bd 0 1 d ∧ d.weight ≤ 52
theorem lf_int {i : Int} (h0 : -3000000000000001 ≤ i) (h1 : i ≤ 3000000000000001) : Lf (.int i) := ⟨by show i.natAbs ≤ 10 ^ 29 + 100 * 0; omega, wSmall (by omega)⟩
theorem lf_str {z : Str} (h : PyData.strOk z = true) (h2 : z.length ≤ 20) : Lf (.str z) := ⟨⟨h, h2⟩, by show z.length ≤ 52; omega⟩
theorem lf_S (x : String) (h1 : PyData.strOk (Str.ofString x) = true := by decide +kernel) (h2 : (Str.ofString x).length ≤ 20 := by decide +kernel) : Lf (S x) := lf_str h1 h2
theorem bd_tup {m n c l : Nat} {ds : List D} (hl : ds.length ≤ l) (l70 : l ≤ 70) (h : ∀ d ∈ ds, Bd m n d ∧ d.weight ≤ c) : Bd m (n + 1) (.tuple ds) ∧ (PyData.tuple ds).weight ≤ l * (c + 1) :=
  ⟨⟨by omega, fun d hd => (h d hd).1⟩, Nat.le_trans (wAll_le fun d hd => (h d hd).2) (Nat.mul_le_mul_right _ hl)⟩
theorem lf_up {n c : Nat} {d : D} (h : Lf d) (hn : 1 ≤ n) (hc : 52 ≤ c) : Bd 0 n d ∧ d.weight ≤ c := ⟨h.1.up (Nat.le_refl _) hn, Nat.le_trans h.2 hc⟩
theorem up2 {n n' c c' : Nat} {d : D} (h : Bd 0 n d ∧ d.weight ≤ c) (hn : n ≤ n') (hc : c ≤ c') : Bd 0 n' d ∧ d.weight ≤ c' := ⟨h.1.up (Nat.le_refl _) hn, Nat.le_trans h.2 hc⟩
theorem ints_bd {ns : List Int} {l : Nat} (hl : ns.length ≤ l) (l70 : l ≤ 70) (h : ∀ i ∈ ns, -3000000000000001 ≤ i ∧ i ≤ 3000000000000001) : Bd 0 2 (.tuple (ns.map PyData.int)) ∧ (PyData.tuple (ns.map PyData.int)).weight ≤ l * 53 :=
  bd_tup (c := 52) (by rw [List.length_map]; exact hl) l70 fun d hd => by
    obtain ⟨i, hi, rfl⟩ := List.mem_map.mp hd
    exact lf_int (h i hi).1 (h i hi).2
theorem wd_bd {X : Wd} (h : X.ok) : Bd 0 6 X.d ∧ X.d.weight ≤ 22000 := by
  have n1 := h.n1
  have n6 := h.n6
  have kb : ∀ z ∈ X.ks, Lf (.str z) := fun z hz => lf_str (h.ks z hz).1 (h.ks z hz).2
  have e1 : Bd 0 5 (.tuple (X.ks.map PyData.str)) ∧ (PyData.tuple (X.ks.map PyData.str)).weight ≤ 4 * 53 := up2 (bd_tup (l := 4) (c := 52) (by rw [List.length_map]; exact h.k4) (by decide) fun d hd => by
    obtain ⟨z, hz, rfl⟩ := List.mem_map.mp hd
    exact kb z hz) (by decide) (Nat.le_refl _)
  have e2 : Bd 0 5 (.tuple (X.ss.map Sr.d)) ∧ (PyData.tuple (X.ss.map Sr.d)).weight ≤ 6 * (265 + 1) := up2 (bd_tup (l := 6) (c := 5 * 53) (by rw [List.length_map]; exact h.sl) (by decide) fun d hd => by
    obtain ⟨s, hs, rfl⟩ := List.mem_map.mp hd
    have ok := h.ss s hs
    have a0 := ok.a0; have a1 := ok.a1; have p0 := ok.p0; have p1 := ok.p1; have s0 := ok.s0; have s1 := ok.s1; have m0 := ok.m0; have m1 := ok.m1
    refine bd_tup (l := 5) (c := 52) (n := 1) (by simp) (by decide) fun d hd => ?_
    simp only [List.mem_cons, List.not_mem_nil, or_false] at hd
    rcases hd with rfl | rfl | rfl | rfl | rfl
    · exact kb _ ok.k
    · exact lf_int (by omega) (by omega)
    · exact lf_int (by omega) (by omega)
    · exact lf_int (by omega) (by omega)
    · exact lf_int (by omega) (by omega)) (by decide) (Nat.le_refl _)
  have e3 : Bd 0 5 (.tuple (X.ws.map Wy.d)) ∧ (PyData.tuple (X.ws.map Wy.d)).weight ≤ 8 * (2435 + 1) := up2 (bd_tup (l := 8) (c := 5 * 487) (n := 4) (by rw [List.length_map]; exact h.wl) (by decide) fun d hd => by
    obtain ⟨y, hy, rfl⟩ := List.mem_map.mp hd
    have ok := h.ws y hy
    have w0 := ok.w0; have w1 := ok.w1
    refine bd_tup (l := 5) (c := 486) (n := 3) (by simp) (by decide) fun d hd => ?_
    simp only [List.mem_cons, List.not_mem_nil, or_false] at hd
    rcases hd with rfl | rfl | rfl | rfl | rfl
    · exact lf_up (kb _ ok.k) (by decide) (by decide)
    · refine up2 (bd_tup (l := 3) (c := 3 * 53) (n := 2) (by rw [List.length_map]; exact ok.p3) (by decide) fun d hd => ?_) (by decide) (by decide)
      obtain ⟨p, hp, rfl⟩ := List.mem_map.mp hd
      have po := ok.ps p hp
      have l0 := po.l0; have lg := po.lg; have g1 := po.g1
      refine bd_tup (l := 3) (c := 52) (n := 1) (by simp) (by decide) fun d hd => ?_
      simp only [List.mem_cons, List.not_mem_nil, or_false] at hd
      rcases hd with rfl | rfl | rfl
      · exact kb _ po.k
      · exact lf_int (by omega) (by omega)
      · exact lf_int (by omega) (by omega)
    · rcases ok.kp with e | e
      · rw [e]; exact lf_up (lf_S "oldest") (by decide) (by decide)
      · rw [e]; exact lf_up (lf_S "youngest") (by decide) (by decide)
    · exact up2 (ints_bd ok.hl (by decide) fun i hi => by have := ok.hs i hi; omega) (by decide) (by decide)
    · exact lf_up (lf_int (by omega) (by omega)) (by decide) (by decide)) (by decide) (Nat.le_refl _)
  refine ⟨⟨by simp, fun d hd => ?_⟩, ?_⟩
  · simp only [List.mem_cons, List.not_mem_nil, or_false] at hd
    rcases hd with rfl | rfl | rfl | rfl
    · exact (lf_int (by omega) (by omega)).1.up (Nat.le_refl _) (by decide)
    · exact e1.1
    · exact e2.1
    · exact e3.1
  · have e0 : (PyData.int X.n).weight ≤ 52 := (lf_int (by omega) (by omega)).2
    have e1 := e1.2; have e2 := e2.2; have e3 := e3.2
    show (PyData.int X.n).weight + 1 + ((PyData.tuple (X.ks.map PyData.str)).weight + 1 + ((PyData.tuple (X.ss.map Sr.d)).weight + 1 + ((PyData.tuple (X.ws.map Wy.d)).weight + 1 + 0))) ≤ 22000
    have : 8 * (2435 + 1) = 19488 := rfl
    omega
theorem atI_last {α : Type} {xs : List α} {b : α} (h : 0 < xs.length) (hb : xs[xs.length - 1]? = some b) : L2.atI xs (-1) = some b := by
  unfold L2.atI L2.ixN
  rw [if_neg (by decide), if_pos (by omega)]
  show xs[(_ : Nat)]? = _
  refine Eq.trans ?_ hb
  congr 1
  omega
theorem ev_e1 {g : D → Option D} {f : EF} {ρ : Rho} {a d : D} (h : f ρ = some a) (hg : g a = some d) : e1 g f ρ = some d := by
  unfold e1
  rw [h]
  exact hg
theorem wIfSet {c : WP Bool} {f r : WP Out} {ρ : Rho} {b : Nat} {Q : Out → Nat → Prop} (T : Rho → Nat → Prop) (hr : ∀ ρ' b', T ρ' b' → r.w ρ' b' Q) (hc : c.w ρ b fun k b1 => if k = true then f.w ρ b1 fun o b2 => ∃ ρ', o = .nx ρ' ∧ T ρ' b2 else T ρ b1) : (swSeq (swIf c f swNil) r).w ρ b Q := by
  refine c.m (fun k b1 z => ?_) hc
  cases k with
  | true =>
    refine f.m (fun o b2 ⟨ρ', e, t⟩ => ?_) z
    subst e
    exact hr ρ' b2 t
  | false => exact hr ρ b1 z
def spLaw (K : PySem.W.Frag) : Sp := fun vs H Q _ => ∃ (a : Addr) (ns : List Int), vs = [.ref a] ∧ SqL K H a (ns.map V.int) ∧ ns.length ≤ 63 ∧ ∀ H', Q (.bl true) H'
end Dl
namespace Dl
open PySem PySem.Spec PyProof.Rows L2 Rt
/-! ### dicts whose keys are numbers or texts -/
theorem u1 {k : Nat} {A : Around} (r : Room k A) : A.units + 1 < cLine := by
  have := r.un
  omega
def keyOf : D → Option Key
  | .int i => some (.inl i)
  | .str x => some (.inr x)
  | _ => none
theorem keyOf_kD (k : Key) : keyOf (kD k) = some k := by cases k <;> rfl
theorem Rp.key {M : Addr → Prop} {H : Hp} {v : V} {d : D} {k : Key} (r : Rp M H v d) (h : keyOf d = some k) : v = kV k := by
  cases r <;> cases h <;> rfl
def lookD (k : Key) : List (D × D) → Option D
  | [] => none
  | e :: es => if keyOf e.1 = some k then some e.2 else lookD k es
theorem lookD_dt {k : Key} : ∀ kvs : List (List Key × Int), lookD k (dtD kvs) = none
  | [] => rfl
  | z :: kvs => by
    show (if keyOf (.tuple (z.1.map kD)) = some k then _ else lookD k (dtD kvs)) = none
    rw [if_neg (fun h => nomatch h), lookD_dt kvs]
def dgD : D → D → Option D
  | .dict es, k => (keyOf k).bind fun k => lookD k es
  | _, _ => none
theorem RpKV.val {M : Addr → Prop} {H : Hp} {k : Key} {d : D} : ∀ {kvs : List (Key × V)} {es : List (D × D)}, RpKV M H kvs es → lookD k es = some d → ∃ v, valV kvs k = some v ∧ Rp M H v d
  | _, _, .nil, e => nomatch e
  | _, _, .cons (k := k0) (v := v0) h t, e => by
    unfold lookD at e
    by_cases z : k0 = k
    · rw [if_pos (show keyOf (kD k0) = some k by rw [keyOf_kD, z])] at e
      cases e
      exact ⟨v0, by unfold valV; rw [List.find?_cons_of_pos (by simp [z])]; rfl, h⟩
    · rw [if_neg (show ¬ keyOf (kD k0) = some k by rw [keyOf_kD]; intro q; injection q with q; exact z q)] at e
      obtain ⟨v, e1, r⟩ := t.val e
      exact ⟨v, by unfold valV at e1 ⊢; rw [List.find?_cons_of_neg (by simp [z])]; exact e1, r⟩
def putD (es : List (D × D)) (k : Key) (d : D) : List (D × D) := if (es.any fun e => decide (keyOf e.1 = some k)) = true then es.map (fun e => if keyOf e.1 = some k then (e.1, d) else e) else es ++ [(kD k, d)]
theorem RpKV.any {M : Addr → Prop} {H : Hp} (k : Key) : ∀ {kvs : List (Key × V)} {es : List (D × D)}, RpKV M H kvs es → (kvs.any fun kv => decide (kv.1 = k)) = es.any fun e => decide (keyOf e.1 = some k)
  | _, _, .nil => rfl
  | _, _, .cons (k := k0) h t => by
    rw [List.any_cons, List.any_cons, t.any k]
    congr 1
    show decide (k0 = k) = decide (keyOf (kD k0) = some k)
    rw [keyOf_kD]
    exact decide_eq_decide.mpr ⟨fun h => by rw [h], fun h => by injection h⟩
theorem RpKV.app {M : Addr → Prop} {H : Hp} {k : Key} {v : V} {d : D} (r : Rp M H v d) : ∀ {kvs : List (Key × V)} {es : List (D × D)}, RpKV M H kvs es → RpKV M H (kvs ++ [(k, v)]) (es ++ [(kD k, d)])
  | _, _, .nil => .cons r .nil
  | _, _, .cons h t => .cons h (t.app r)
theorem RpKV.mapP {M : Addr → Prop} {H : Hp} {k : Key} {v : V} {d : D} (r : Rp M H v d) : ∀ {kvs : List (Key × V)} {es : List (D × D)}, RpKV M H kvs es → RpKV M H (kvs.map fun kv => if kv.1 = k then (kv.1, v) else kv) (es.map fun e => if keyOf e.1 = some k then (e.1, d) else e)
  | _, _, .nil => .nil
  | _, _, .cons (k := k0) (v := v0) (d := d0) h t => by
    rw [List.map_cons, List.map_cons]
    by_cases z : k0 = k
    · rw [if_pos z, if_pos (show keyOf (kD k0) = some k by rw [keyOf_kD, z])]
      exact .cons r (t.mapP r)
    · rw [if_neg z, if_neg (show ¬ keyOf (kD k0) = some k by rw [keyOf_kD]; intro q; injection q with q; exact z q)]
      exact .cons h (t.mapP r)
theorem RpKV.put {M : Addr → Prop} {H : Hp} {k : Key} {v : V} {d : D} {kvs : List (Key × V)} {es : List (D × D)} (t : RpKV M H kvs es) (r : Rp M H v d) : RpKV M H (putK kvs k v) (putD es k d) := by
  unfold putK putD
  rw [t.any k]
  split
  · exact t.mapP r
  · exact t.app r
theorem RpKV.len {M : Addr → Prop} {H : Hp} : ∀ {kvs : List (Key × V)} {es : List (D × D)}, RpKV M H kvs es → kvs.length = es.length
  | _, _, .nil => rfl
  | _, _, .cons _ t => congrArg (· + 1) t.len
theorem putK_len (kvs : List (Key × V)) (k : Key) (v : V) : (putK kvs k v).length ≤ kvs.length + 1 := by
  unfold putK
  split
  · rw [List.length_map]; omega
  · rw [List.length_append]; exact Nat.le_refl _
def dcGo (p : Pat) (c : Rho → Option Bool) (fk fv : EF) (ρ : Rho) : List D → List (D × D) → Option (List (D × D))
  | [], acc => some acc
  | x :: xs, acc => (bindP p x ρ).bind fun ρ1 => (c ρ1).bind fun b => if b = true then (fk ρ1).bind fun dk => (keyOf dk).bind fun k => (fv ρ1).bind fun d => dcGo p c fk fv ρ xs (putD acc k d) else dcGo p c fk fv ρ xs acc
def eDc (μ : Bool) (vs : List Nat) (it : Rho → Option (List D)) (p : Pat) (c : Rho → Option Bool) (fk fv : EF) : EF := fun ρ => (it ρ).bind fun items => (dcGo p c fk fv (wipeR (shutR μ ρ) vs) items []).map .dict
theorem dcCore {K : PySem.W.Frag} {μ μk μi pr : Bool} {M0 : Addr → Prop} {H0 H1 : Hp} {σ : L2.St} {ρ : Rho} {J : It} {items : List D} {res : List (D × D)} {p : Pat} {c : Rho → Option Bool} {fk fv : EF} {vs : List Nat} {D : Addr} {Qd : Hp → Prop}
    (R : Rs M0 H0 H1 σ ρ) (dw : ∀ M', (∀ a, M' a → Mu μ M0 σ ρ a ∨ H1 a = none) → DW pr M' H1 J items) (hD : H1 D = none) (hp : p.fits pr = true) (hs : ∀ j, j ∈ slP p → j ∈ vs) (e : dcGo p c fk fv (wipeR (shutR μ ρ) vs) items [] = some res)
    (q : ∀ H kvs, Same H1 H → H D = some (.dK kvs) → RpKV (Mi μ M0 σ ρ D) H kvs res → Qd H) :
    ∃ W : Nat → Nat → Hp → Prop, (∃ m, W 0 m (upd H1 D (.dK []))) ∧ ∀ i m H, W i m H →
      (J.stop i H ∧ Qd H) ∨ (J.go i H ∧ ∃ Nx : Hp → Prop, (∀ H', Nx H' → ∃ m', m' < m ∧ W (i + 1) m' H') ∧ ∀ x H', J.yld i H x H' → gP K p x (wipe σ vs) H' fun σ2 H2 => wipe σ2 vs = wipe σ vs ∧ tT c σ2 H2 fun b H3 =>
        if b = true then tD μk fk σ2 H3 fun y H4 => tD μi fv σ2 H4 fun z H5 => ∃ kvs k, y = kV k ∧ H5 D = some (.dK kvs) ∧ kvs.length < sizeLine ∧ Nx (upd H5 D (.dK (putK kvs k z))) else Nx H3) := by
  have dw := dw (Mi μ M0 σ ρ D) fun a m => m.elim .inl fun z => .inr (by rw [z]; exact hD)
  have sz := dw.sz
  obtain ⟨G, Y, W, hG, hY⟩ := dw.ex
  let I : Nat → Hp → Prop := fun i H => Same H1 H ∧ ∃ kvs acc, H D = some (.dK kvs) ∧ kvs.length ≤ i ∧ RpKV (Mi μ M0 σ ρ D) H kvs acc ∧ dcGo p c fk fv (wipeR (shutR μ ρ) vs) (items.drop i) acc = some res
  refine ⟨fun i m H => i ≤ items.length ∧ m = items.length - i ∧ I i H, ⟨_, Nat.zero_le _, rfl, smN hD, [], [], upd_same, Nat.le_refl _, .nil, e⟩, ?_⟩
  rintro i m H ⟨hi, rfl, sm, kvs, acc, eD, la, ra, er⟩
  by_cases hlt : i < items.length
  · refine .inr ⟨W.goes i H hlt (hG _ (.of sm)), fun H' => I (i + 1) H', fun H' h => ⟨items.length - (i + 1), by omega, hlt, rfl, h⟩, fun v H' y => ?_⟩
    obtain ⟨d, ed, s2, rv⟩ := hY i v H H' (.of sm) (W.yields i H v H' hlt (hG _ (.of sm)) y)
    rw [drop_at ed] at er
    unfold dcGo at er
    obtain ⟨ρ1, e1, er⟩ := some_bind er
    obtain ⟨b, eb, er⟩ := some_bind er
    have Rin := R.inner (μ := μ) hD (sm.trans s2) (s2 _ _ eD) vs
    refine bindP.ok (pr := pr) Rin ?_ hp e1 fun σ2 R2 B2 => ⟨wipe_eq B2.oth B2.len hs, _, _, ρ1, b, R2, eb, fun H3 s3 => ?_⟩
    · rcases rv with rv | ⟨zp, a, xs, ds, z1, z2, z3, z4⟩
      · exact .inl (rv.reM fun a m => .inl (Mi.noOwn a m))
      · exact .inr ⟨zp, a, xs, ds, z1, z2, z3, z4.reM fun a m => .inl (Mi.noOwn a m)⟩
    have s13 := (sm.trans s2).trans s3
    cases b with
    | true =>
      obtain ⟨dk, edk, er⟩ := some_bind (show (fk ρ1).bind _ = some res from er)
      obtain ⟨k, ek, er⟩ := some_bind er
      obtain ⟨dv, edv, er⟩ := some_bind er
      refine ⟨_, _, ρ1, dk, R2.mono s3, edk, fun y H4 s4 r4 => ⟨_, _, ρ1, dv, (R2.mono s3).mono s4, edv, fun z H5 s5 r5 => ?_⟩⟩
      have s35 := s3.trans (s4.trans s5)
      have eD5 := (s2.trans s35) _ _ eD
      have kp : KpM (Mi μ M0 σ ρ D) H5 (upd H5 D (.dK (putK kvs k z))) := fun q o n e => by
        rw [upd_ne (fun z => n (.inr z))]
        exact e
      have r5 : Rp (Mi μ M0 σ ρ D) H5 z dv := r5.reM fun a m => .inl (.inl m)
      refine ⟨kvs, k, r4.key ek, eD5, by omega, fun q o e => ?_, putK kvs k z, putD acc k dv, upd_same, Nat.le_trans (putK_len _ _ _) (by omega), ?_, er⟩
      · rw [upd_ne (ne_of_none e hD)]
        exact (s13.trans (s4.trans s5)) _ _ e
      · exact ((ra.mono (.of (s2.trans s35))).mono kp).put (r5.mono kp)
    | false =>
      exact ⟨s13, kvs, acc, (s2.trans s3) _ _ eD, by omega, ra.mono (.of (s2.trans s3)), er⟩
  · have : i = items.length := by omega
    subst this
    rw [List.drop_length] at er
    cases er
    exact .inl ⟨W.stops H (hG _ (.of sm)), q H kvs sm eD ra⟩
section
variable {X : Cx} {K : PySem.W.Frag}
theorem dE_dc {e : Expr} {it : Rho → Option (List D)} {p : Pat} {c : Rho → Option Bool} {fk fv : EF} {vs : List Nat} {μ μk μi pr : Bool} (h : PE X e (tDc (iD μ pr it) (gP K p) (tT c) (tD μk fk) (tD μi fv) vs)) (hp : p.fits pr = true := by rfl) (hs : ∀ j, j ∈ slP p → j ∈ vs := by decide) : PE X e (tD μ (eDc μ vs it p c fk fv)) := h.wk fun σ H Q q => by
  obtain ⟨M0, H0, ρ, d, R, e, q⟩ := q
  obtain ⟨items, ei, e⟩ := some_bind e
  obtain ⟨res, er, rfl⟩ := some_map e
  exact ⟨M0, H0, ρ, items, R, ei, fun J H1 s1 dw D hD => dcCore (R.mono s1) dw hD hp hs er fun H2 kvs s2 eD ra => q _ _ (s1.trans s2) (.dic eD (((R.mono s1).domu μ).not hD) (ra.reM fun a m => .inl (.inl m)))⟩
theorem dE_dget {o i : Expr} {pos : Pos} {f1 f2 : EF} {μ : Bool} (hu : X.A.units + 1 < cLine) (ho : PE X o (tD μ f1)) (hi : PE X i (tD μ f2)) (hs : NoSl i := by exact fun _ _ => rfl) : PE X (.Subscript o i pos) (tD μ (e2 dgD f1 f2)) := (pe_dget hu ho hi hs).wk fun σ H Q q => by
  obtain ⟨M0, H0, ρ, d, R, e, q⟩ := q
  obtain ⟨a, ea, e⟩ := some_bind e
  obtain ⟨b, eb, e⟩ := some_bind e
  refine ⟨M0, H0, ρ, a, R, ea, fun x H1 s1 r1 => ⟨M0, H0, ρ, b, R.mono s1, eb, fun y H2 s2 r2 => ?_⟩⟩
  cases r1 with
  | dct t n h =>
    obtain ⟨k, ek, e⟩ := some_bind e
    rw [h, lookD_dt] at e
    cases e
  | @dic a kvs es t n h =>
    obtain ⟨k, ek, e⟩ := some_bind e
    obtain ⟨v, ev, rv⟩ := (h.mono (.of s2)).val e
    exact ⟨_, v, rfl, .inl ⟨kvs, k, .inl (s2 _ _ t), r2.key ek, ev.symm⟩, q v H2 (s1.trans s2) rv⟩
  | non => cases e
  | bl b => cases e
  | int i => cases e
  | str x hx => cases e
  | tup t n l r => cases e
  | lst t n l r => cases e
/-! ### a list of one's own, put otherwise at a place -/
def sPut (i : Nat) (f fi : EF) : Rho → Option Out := fun ρ => (f ρ).bind fun d => match ρ[i]? with
  | some (some (.own ds)) => (fi ρ).bind fun x => match x with
    | .int k => (ixN ds.length k).map fun j => .nx (ρ.set i (some (.own (ds.set j d))))
    | _ => none
  | _ => none
theorem dS_put {st : Stmt} {i : Nat} {f fi : EF} (h : PS X st (tAsg (tD true f) (gSub (tVar i) (tD true fi) rSetLL))) : PS X st (tS (sPut i f fi)) := h.wk fun Dn σ H q => by
  obtain ⟨M0, H0, ρ, o, R, e, q⟩ := tS_iff.mp q
  obtain ⟨d, ed, e⟩ := some_bind e
  split at e
  · rename_i ds z
    obtain ⟨x, ex, e⟩ := some_bind e
    cases x <;> try (cases e; done)
    rename_i k
    obtain ⟨j, ej, rfl⟩ := some_map e
    refine ⟨M0, H0, ρ, d, R, ed, fun v H1 s1 r1 => ?_⟩
    obtain ⟨p, vs, a, c, h0, l, r⟩ := (R.mono s1).own i ds z
    refine ⟨.ref p, a, M0, H0, ρ, .int k, R.mono s1, ex, fun y H2 s2 r2 => ?_⟩
    cases r2
    refine ⟨p, vs, k, j, rfl, rfl, s2 _ _ c, by rw [r.len]; exact ej, fun H3 e3 => ?_⟩
    subst e3
    obtain ⟨R3, S3⟩ := ((R.mono s1).mono s2).ownSet z a (s2 _ _ c) (vs' := vs.set j v) (by rw [List.length_set]; exact l) (RpAll.set (r1.mono (.of s2)) j (r.mono (.of s2)))
    exact q _ _ R3 ((Stp.of (s1.trans s2)).trans S3)
  · cases e
/-! ### walks downwards -/
def dnD (hi : Int) (n : Nat) : List D := (List.range n).map fun (i : Nat) => PyData.int (hi - (i : Int))
theorem dnD_len (hi : Int) (n : Nat) : (dnD hi n).length = n := by unfold dnD; rw [List.length_map, List.length_range]
theorem DW.rngC {M : Addr → Prop} {H : Hp} {hi : Int} {n : Nat} (l : n ≤ sizeLine) : DW false M H (Itc hi (-1) n) (dnD hi n) := by
  have hl := dnD_len hi n
  refine ⟨⟨fun _ => True, fun i H x H' => i < n ∧ YFn (fun i => V.int (hi + (i : Nat) * (-1))) i H x H', ?_, fun _ _ => trivial, fun i v Ha Hb k y => ?_⟩, by rw [hl]; exact l⟩
  · rw [hl]
    exact ⟨walk_rangeC.goes, walk_rangeC.stops, fun i H x H' hi g y => ⟨hi, walk_rangeC.yields i H x H' hi g y⟩⟩
  · obtain ⟨hi2, rfl, rfl⟩ := y
    refine ⟨.int (hi + (i : Nat) * (-1)), ?_, Same.refl _, .inl (.int _)⟩
    unfold dnD
    rw [List.getElem?_map, List.getElem?_range hi2]
    show some (PyData.int (hi - (i : Int))) = _
    rw [show hi - (i : Int) = hi + (i : Int) * (-1) by omega]
def ran3D : List D → Option (List D)
  | [.int i, .int j, .int c] => if c = -1 ∧ j ≤ i ∧ -(2 ^ 40) ≤ j ∧ i < 2 ^ 20 ∧ i - j < 2 ^ 20 then some (dnD i (i - j).toNat) else none
  | _ => none
theorem rgc_dn {i j : Int} (h1 : j ≤ i) (h2 : -(2 ^ 40) ≤ j) (h3 : i < 2 ^ 20) : RgC i j (-1) (i - j).toNat := by
  refine ⟨by decide, by decide, ?_, ?_⟩
  · have e : Builtin.Range.rangeSize i j (-1) = i - j := by
      unfold Builtin.Range.rangeSize
      simp
      omega
    unfold Builtin.Range.small Builtin.Range.rangeFitsLong
    rw [e]
    simp
    omega
  · unfold Builtin.Range.rangeSize
    simp
    by_cases h : j < i
    · simp [h]; omega
    · simp [h]; omega
theorem dI_ran3 {tg a b c : Expr} {p pos : Pos} {f : Rho → Option (List D)} {μ : Bool} (hg : Gl X "range") (hm : X.mg "range" = none) (ha : PA X [a, b, c] (tA μ f)) (hs : starEach [a, b, c] X.env = (false, eval a X.env) :: starEach [b, c] X.env := by rfl) (hs2 : (backTo pos (starEach [b, c] X.env)).any (·.1) = false := by rfl) : PI X tg (.Call (.Name "range" p) [a, b, c] [] pos) (iD μ false (itG ran3D f)) := (pi_range3 hg hm ha hs hs2).wk fun σ H R q => by
  obtain ⟨M0, H0, ρ, items, Rr, e, q⟩ := q
  obtain ⟨ds, ed, e⟩ := some_bind e
  refine ⟨M0, H0, ρ, ds, Rr, ed, fun vs H1 s1 r1 => ?_⟩
  unfold ran3D at e
  split at e
  · rename_i i j c
    obtain ⟨⟨rfl, l1, l2, l3, l4⟩, rfl⟩ := iteS e
    cases r1 with
    | cons h1 r1 =>
      cases h1
      cases r1 with
      | cons h2 r1 =>
        cases h2
        cases r1 with
        | cons h3 r1 =>
          cases h3
          cases r1
          exact ⟨i, j, -1, _, rfl, rgc_dn l1 l2 l3, q _ _ s1 fun M' hM => DW.rngC (szR (by omega))⟩
  · cases e
def revR1 (f : EF) : Rho → Option (List D) := fun ρ => (f ρ).bind fun d => match d with
  | .int n => if 0 ≤ n ∧ n < 2 ^ 20 then some (dnD (n - 1) n.toNat) else none
  | _ => none
theorem dI_rev1 {tg a : Expr} {p pos p2 pos2 : Pos} {f : EF} {μ : Bool} (hg : Gl X "reversed") (hm : X.mg "reversed" = none) (hg2 : Gl X "range") (hm2 : X.mg "range" = none) (ha : PE X a (tD μ f)) (na : starEach [a] X.env = (false, eval a X.env) :: starEach [] X.env := by rfl) : PI X tg (.Call (.Name "reversed" p) [.Call (.Name "range" p2) [a] [] pos2] [] pos) (iD μ false (revR1 f)) := (pi_revR hg hm (prg_1 hg2 hm2 ha na)).wk fun σ H R q => by
  obtain ⟨M0, H0, ρ, items, Rr, e, q⟩ := q
  obtain ⟨d, ed, e⟩ := some_bind e
  refine ⟨M0, H0, ρ, d, Rr, ed, fun v H1 s1 r1 => ?_⟩
  cases r1 <;> try (cases e; done)
  rename_i n
  obtain ⟨⟨l1, l2⟩, rfl⟩ := iteS e
  refine ⟨n, rfl, by omega, by omega, by omega, by omega, ?_⟩
  rw [show (0 : Int) + (((n - 0).toNat : Nat) : Int) - 1 = n - 1 by omega, show (n - 0).toNat = n.toNat by omega]
  exact q _ _ s1 fun M' hM => DW.rngC (szR (by omega))
end
end Dl
namespace Dl
open PySem PySem.Spec PyProof.Rows L2 Rt
/-! ### the least of a list of pairs of numbers -/
def prD (p : Int × Int) : D := .tuple [.int p.1, .int p.2]
def prsD : List D → Option (List (Int × Int))
  | [] => some []
  | .tuple [.int a, .int b] :: ds => (prsD ds).map ((a, b) :: ·)
  | _ => none
theorem prsD.map : ∀ ps : List (Int × Int), prsD (ps.map prD) = some ps
  | [] => rfl
  | p :: ps => by
    show (prsD (ps.map prD)).map _ = _
    rw [prsD.map ps]
    rfl
theorem prsD.get : ∀ {ds : List D} {ps : List (Int × Int)}, prsD ds = some ps → ds = ps.map prD
  | [], ps, e => by cases e; rfl
  | d :: ds, ps, e => by
    unfold prsD at e
    split at e
    · rename_i h
      cases h
    · rename_i a b ds' h
      injection h with h1 h2
      subst h1
      subst h2
      obtain ⟨qs, eq, rfl⟩ := some_map e
      rw [prsD.get eq]
      rfl
    · cases e
def leastP : List (Int × Int) → Option (Int × Int)
  | [] => none
  | p :: ps => some (PySem.W.minOf p ps)
def minPD : List D → Option D
  | [.list ds] => ((prsD ds).bind leastP).map prD
  | _ => none
theorem rv_get {M : Addr → Prop} {H : Hp} : ∀ {vs : List V} {us : List Value} {ds : List D} {i : Nat} {u : Value}, Vals vs us → RpAll M H vs ds → us[i]? = some u → ∃ v d, RelV v u ∧ Rp M H v d
  | _, _, _, _, _, .nil, .nil, e => nomatch e
  | _, _, _, 0, _, .cons r _, .cons h _, e => by
    cases e
    exact ⟨_, _, r, h⟩
  | _, _, _, i + 1, _, .cons _ r, .cons _ h, e => rv_get (i := i) r h e
section
variable {X : Cx}
theorem c_minP (hc : X.calm = true) (hu : X.A.units + 64 < cLine) : CallR X (.builtin "min") (rC minPD) := by
  intro pn s σ H xs us Q I r h
  obtain ⟨M, ds, d, dm, ra, e, q⟩ := h
  match ds, ra, e with
  | [.list ds], .cons (.lst t n l rr) .nil, e =>
    obtain ⟨m, em, rfl⟩ := some_map (show ((prsD ds).bind leastP).map prD = some d from e)
    obtain ⟨ps, en, el⟩ := some_bind em
    have hd := prsD.get en
    subst hd
    obtain ⟨its, rv, hl, _⟩ := I.list (SqL.of t)
    rw [Vals.ref1 r]
    obtain ⟨as, ra⟩ := RpAll.reads I rr rv
    cases ps with
    | nil => cases el
    | cons p ps =>
      have el : some (PySem.W.minOf p ps) = some m := el
      injection el with el
      subst el
      refine PySem.W.min_list_datum (α := Int × Int) (x := p) (xs := ps) (I.ok.hd hc) hl.isList ⟨as, show ReadsAll s.heap its.toArray.toList ((p :: ps).map prD) as by simpa using ra⟩ (Nat.lt_of_le_of_lt (show X.A.units + 1 + 1 ≤ X.A.units + 64 by omega) hu) fun i v h' tk hv hm hk => ?_
      obtain ⟨w, dw, rw1, rp⟩ := rv_get (i := i) rv rr (by simpa using hv)
      obtain ⟨bs, rb⟩ := hm
      obtain ⟨cs, rc⟩ := Rp.reads I rp rw1
      have ed := (reads_det (fun b o e _ => hk b o e) rc rb).1
      have ed : prD (PySem.W.minOf p ps) = dw := ed
      subst ed
      exact ⟨w, H, I.kept hk, rw1, q _ _ (Same.refl _) rp⟩
/-! ### a test that is a choice of two tests -/
theorem pt_ifx {c a b : Expr} {pos : Pos} {tc ta tb : L2.TT} (hc : PT X c tc) (ha : PT X a ta) (hb : PT X b tb) : PT X (.IfExp c a b pos) (fun σ H Q => tc σ H fun d H1 => if d = true then ta σ H1 Q else tb σ H1 Q) := ⟨fun pins s σ H Q I h => by
  show wpAny _ _ (do if ← isTrue c X.env (eval c X.env) then isTrue a X.env (eval a X.env) else isTrue b X.env (eval b X.env)) _ _ _
  refine wpAny_bind (wpAny_mono (hc.run pins s σ H _ I h) (fun d s1 ⟨H1, I1, q1⟩ => ?_) fun _ _ x => x)
  cases d with
  | true => exact ha.run pins s1 σ H1 Q I1 q1
  | false => exact hb.run pins s1 σ H1 Q I1 q1⟩
def oIf (c f g : Rho → Option Bool) : Rho → Option Bool := fun ρ => (c ρ).bind fun b => if b = true then f ρ else g ρ
theorem dT_ifx {c a b : Expr} {pos : Pos} {k f g : Rho → Option Bool} (hc : PT X c (tT k)) (ha : PT X a (tT f)) (hb : PT X b (tT g)) : PT X (.IfExp c a b pos) (tT (oIf k f g)) := (pt_ifx hc ha hb).wk fun σ H Q q => by
  obtain ⟨M0, H0, ρ, b, R, e, q⟩ := q
  obtain ⟨c, ec, e⟩ := some_bind e
  refine ⟨M0, H0, ρ, c, R, ec, fun H1 s1 => ?_⟩
  cases c with
  | true => exact ⟨M0, H0, ρ, b, R.mono s1, e, fun H2 s2 => q H2 (s1.trans s2)⟩
  | false => exact ⟨M0, H0, ρ, b, R.mono s1, e, fun H2 s2 => q H2 (s1.trans s2)⟩
/-! ### a, b, c = x, y, z where something is drawn -/
def swPar3 (i j k : Nat) (f : WP (List D)) : WP Out := ⟨fun ρ b Q => f.w ρ b fun ds b' => ∃ x y z, ds = [x, y, z] ∧ Q (.nx (((ρ.set i (some (.dat x))).set j (some (.dat y))).set k (some (.dat z)))) b', fun h z => f.m (fun ds b' ⟨x, y, u, e, w⟩ => ⟨x, y, u, e, h _ _ w⟩) z⟩
theorem nS_par3 {st : Stmt} {i j k : Nat} {f : WP (List D)} (h : PS X st (tPar3 i j k (tnA f))) : PS X st (tSn (swPar3 i j k f)) := h.wk fun Dn σ H q => by
  obtain ⟨g, M0, H0, ρ, b, R, q⟩ := q
  refine ⟨g, M0, H0, ρ, b, R, f.m (fun ds b1 ⟨x, y, z, e, q⟩ vs H1 k1 i1 r1 => ?_) q⟩
  subst e
  match vs, r1 with
  | [v, w, u], .cons ra (.cons rb (.cons rc .nil)) =>
    have sh : ∀ a', Mu true M0 (σ.set i (some v)) (ρ.set i (some (.dat x))) a' → Mu true M0 σ ρ a' := Mu.shrink fun ds e => by cases e
    have R1 := (R.up k1 i1).set (i := i) ra
    have R2 := R1.set (i := j) (rb.reM fun a m => .inl (sh a m))
    have sh2 : ∀ a', Mu true M0 ((σ.set i (some v)).set j (some w)) ((ρ.set i (some (.dat x))).set j (some (.dat y))) a' → Mu true M0 σ ρ a' := fun p m => sh p (Mu.shrink (fun ds e => by cases e) p m)
    have R3 := R2.set (i := k) (rc.reM fun a m => .inl (sh2 a m))
    refine ⟨v, w, u, rfl, q _ _ R3 ((R.stp k1).trans ⟨.refl, fun p m => .inl (sh2 p (Mu.shrink (fun ds e => by cases e) p m))⟩)⟩
/-! ### not in a list of texts, any needle -/
def ninL : D → D → Option D
  | a, .list ds => if ds.all isStrD = true then some (.bool (!ds.any fun z => PyData.eqv z a)) else none
  | _, _ => none
theorem o_ninL (hu : X.A.units + 65 < cLine) : OpR X (compareOp .NotIn) (rD ninL) := by
  intro pn s σ H x y v u Q I rx ry h
  obtain ⟨M, a, b, d, dm, ra, rb, e, q⟩ := h
  cases rb <;> (try (cases ra <;> cases e; done))
  rename_i xs ds t n l r
  obtain ⟨l2, rfl⟩ := iteS (show (if ds.all isStrD = true then some (PyData.bool (!ds.any fun z => PyData.eqv z a)) else none) = some d by cases a <;> exact e)
  cases ry
  obtain ⟨as, r1⟩ := Rp.reads I ra rx
  obtain ⟨its, vi, it, _⟩ := I.list (SqL.of t)
  refine SeqAt.notIn_listAt (eqS a) it.isList (fun y hy => ?_) ⟨.bl _, H, I, ?_, q _ _ (Same.refl _) (.bl _)⟩
  · obtain ⟨b, tk, rfl⟩ := mem_strs r vi l2 y (by simpa using hy)
    exact eqAt_str_any b tk r1 (show X.A.units + 1 < cLine by omega)
  · show Value.bool _ = Value.bool _
    rw [← any_strs r vi l2]
    simp
end
end Dl
namespace Dl
open PySem PySem.Spec PyProof.Rows L2 Rt
/-! ### texts in one -/
theorem iteP {α : Type} {c : Prop} [Decidable c] {a : Option α} {b : α} (h : (if c then a else none) = some b) : c ∧ a = some b := by
  by_cases e : c
  · rw [if_pos e] at h; exact ⟨e, h⟩
  · rw [if_neg e] at h; cases h
theorem strsD.get : ∀ {ds : List D} {ys : List Str}, strsD ds = some ys → ds = ys.map .str
  | [], ys, e => by cases e; rfl
  | d :: ds, ys, e => by
    unfold strsD at e
    split at e
    · rename_i h
      cases h
    · rename_i x ds' h
      injection h with h1 h2
      subst h1
      subst h2
      obtain ⟨qs, eq, rfl⟩ := some_map e
      rw [strsD.get eq]
      rfl
    · cases e
def joinD : D → D → Option D
  | .str a, .list ds => (strsD ds).bind fun ys => if (ys.map (·.length)).sum + ys.length * a.length ≤ 1000000 ∧ (Txt.join a ys).length ≤ sizeLine then some (.str (Txt.join a ys)) else none
  | .str a, .tuple ds => (strsD ds).bind fun ys => if (ys.map (·.length)).sum + ys.length * a.length ≤ 1000000 ∧ (Txt.join a ys).length ≤ sizeLine then some (.str (Txt.join a ys)) else none
  | _, _ => none
def splitD : D → D → Option D
  | .str a, .str b => if (b.length == 0) = false ∧ a.length + 2 ≤ sizeLine ∧ (Txt.split a b).length ≤ sizeLine ∧ ∀ x ∈ Txt.split a b, x.length ≤ sizeLine then some (.list ((Txt.split a b).map .str)) else none
  | _, _ => none
def strX : D → Prop
  | .str _ => True
  | _ => False
theorem RpAll.strM {M : Addr → Prop} {H : Hp} : ∀ {ys : List Str}, (∀ y ∈ ys, y.length ≤ sizeLine) → RpAll M H (ys.map V.str) (ys.map .str)
  | [], _ => .nil
  | y :: ys, h => .cons (.str y (h y (by simp))) (RpAll.strM fun x hx => h x (by simp [hx]))
def fmtD : D → Option D
  | .str y => some (.str y)
  | .int i => if i.natAbs < 10 ^ 30 then some (.str (Str.ofString (toString i))) else none
  | _ => none
def jGo : List EF → Rho → Str → Option Str
  | [], _, acc => some acc
  | f :: fs, ρ, acc => (f ρ).bind fun d => match d with
    | .str y => if (acc ++ y).length ≤ sizeLine then jGo fs ρ (acc ++ y) else none
    | _ => none
def eJn (fs : List EF) : EF := fun ρ => (jGo fs ρ Str.empty).map .str
def intT : List D → Option D
  | [.str a] => (intText? a).bind fun n => if a.length ≤ 640 then some (.int n) else none
  | ds => intD ds
def mulZ : D → D → Option D
  | .str z, .int n => if n = 0 then some (.str Str.empty) else mulX (.str z) (.int n)
  | a, b => mulX a b
def upD (lo c : Int) (n : Nat) : List D := (List.range n).map fun (i : Nat) => PyData.int (lo + (i : Int) * c)
theorem upD_len (lo c : Int) (n : Nat) : (upD lo c n).length = n := by unfold upD; rw [List.length_map, List.length_range]
theorem DW.rngU {M : Addr → Prop} {H : Hp} {lo c : Int} {n : Nat} (l : n ≤ sizeLine) : DW false M H (Itc lo c n) (upD lo c n) := by
  have hl := upD_len lo c n
  refine ⟨⟨fun _ => True, fun i H x H' => i < n ∧ YFn (fun i => V.int (lo + (i : Nat) * c)) i H x H', ?_, fun _ _ => trivial, fun i v Ha Hb k y => ?_⟩, by rw [hl]; exact l⟩
  · rw [hl]
    exact ⟨walk_rangeC.goes, walk_rangeC.stops, fun i H x H' lo' g y => ⟨lo', walk_rangeC.yields i H x H' lo' g y⟩⟩
  · obtain ⟨hi2, rfl, rfl⟩ := y
    refine ⟨.int (lo + (i : Nat) * c), ?_, Same.refl _, .inl (.int _)⟩
    unfold upD
    rw [List.getElem?_map, List.getElem?_range hi2]
    rfl
/-- range(0, n, 3) -/
def ranU : List D → Option (List D)
  | [.int i, .int j, .int c] => if i = 0 ∧ c = 3 ∧ 0 ≤ j ∧ j < 2 ^ 20 then some (upD 0 3 ((j + 2) / 3).toNat) else none
  | _ => none
theorem rgc_up {j : Int} (h1 : 0 ≤ j) (h2 : j < 2 ^ 20) : RgC 0 j 3 ((j + 2) / 3).toNat := by
  have e : Builtin.Range.rangeSize 0 j 3 = (j + 2) / 3 := by
    unfold Builtin.Range.rangeSize
    simp
    by_cases h : 0 < j
    · simp [h]; omega
    · simp [h]; omega
  refine ⟨by decide, by decide, ?_, ?_⟩
  · unfold Builtin.Range.small Builtin.Range.rangeFitsLong
    rw [e]
    simp
    omega
  · rw [e]
    omega
theorem unp_star {prog : Program} {w : World} {A : Around} {E : Value → Shared → Prop} {s : Shared} {l : Addr} {items : Array Value} {n : Nat} {Q : List Value → Shared → Prop} (hh : A.handled = none) (hl : s.heap.IsList l items) (hn : n ≤ items.size) (hz : items.size ≤ 16384)
    (h : ∀ (h' : Heap) (tk : Nat), (∀ b o, s.heap.get? b = some o → h'.get? b = some o) → Q (items.toList.take n ++ [.ref h'.objs.size]) { s with heap := h'.push { cls := .type "list", data := .seq (items.toList.drop n).toArray }, toks := tk }) :
    wpAny (model prog w) A (unpackItems (.ref l) (n + 1) (some n)) Q E s := by
  have hlt : l ≠ s.heap.objs.size := by obtain ⟨o, ho, _⟩ := hl; exact Nat.ne_of_lt (Heap.lt_size ho)
  unfold unpackItems
  refine wpAny_bind ?_
  unfold notIterableAtAll
  refine wpAny_bind (wpAny_specialOf hl.typeIs slot_list_iter.lookup (wpAny_pure ?_))
  simp only [Bool.false_eq_true, if_false]
  refine wpAny_bind (wpAny_holding (wpAny_pyIter_list hl ?_))
  refine wpAny_bind (wpAny_holding (PySem.W.kun_draw hlt n 0 _ _ ⟨_, Heap.get?_push_size _ rfl, rfl, rfl⟩ (hl.push _) (by omega) fun h1 it1 s1 => ?_))
  have hl1 : h1.IsList l items := (hl.push _).extBut s1.extBut hlt
  rw [Nat.zero_add] at it1
  rw [List.drop_zero]
  have lt : (items.toList.take n).length = n := by rw [List.length_take, Array.length_toList]; omega
  rw [if_neg (show ¬ ((items.toList.take n).length < n) by omega)]
  have hIt := it1
  have hLs := hl1
  obtain ⟨oi, hoi, _⟩ := hIt
  obtain ⟨ol, hol, _⟩ := hLs
  refine wpAny_bind (wpAny_holding (PySem.W.kun_collect (s := { s with heap := h1 }) (T := "list_iterator") (.inr (.inr (.inl rfl))) (Walks.list (A := A.in1) hh s.heap.objs.size l hlt items) (fun j u st => st.1.typeIs) (k := n) hn ⟨it1, hl1⟩ (Heap.lt_size hoi) (Heap.lt_size hol) (fun h2 tk k2 => ?_) (by rw [sizeLine_eq]; omega)))
  have lr : (items.toList.drop n).length = items.size - n := by rw [List.length_drop, Array.length_toList]
  have k3 : ∀ b o, s.heap.get? b = some o → h2.get? b = some o := fun b o e => k2 b o (Nat.ne_of_lt (Heap.lt_size e)) (s1.extBut b o (Nat.ne_of_lt (Heap.lt_size e)) (Heap.get?_push_of_some _ e))
  show wpAny _ _ (if (items.toList.drop n).length < n + 1 - 1 - n then _ else _) _ _ _
  rw [if_neg (by omega)]
  have e0 : (items.toList.drop n).length - (n + 1 - 1 - n) = (items.toList.drop n).length := by omega
  rw [e0, List.take_length, List.drop_length]
  refine wpAny_bind (wpAny_newList (s := { s with heap := h2, toks := tk }) (wpAny_pure ?_) (by rw [sizeLine_eq]; omega))
  rw [List.append_nil]
  exact h h2 tk k3
/-- a, b, *c = a list -/
def gStar (K : PySem.W.Frag) (n : Nat) (t : TGs) : TG := fun v σ H Q => ∃ a xs, v = .ref a ∧ SqL K H a xs ∧ n ≤ xs.length ∧ xs.length ≤ 16384 ∧ ∀ p, H p = none → t (xs.take n ++ [.ref p]) σ (upd H p (.lst (xs.drop n))) Q
theorem vals_take : ∀ {xs : List V} {us : List Value} (n : Nat), Vals xs us → Vals (xs.take n) (us.take n)
  | _, _, 0, _ => .nil
  | _, _, n + 1, .nil => .nil
  | _, _, n + 1, .cons r t => .cons r (vals_take n t)
theorem vals_drop : ∀ {xs : List V} {us : List Value} (n : Nat), Vals xs us → Vals (xs.drop n) (us.drop n)
  | _, _, 0, h => h
  | _, _, n + 1, .nil => .nil
  | _, _, n + 1, .cons r t => vals_drop n t
section
variable {X : Cx} {K : PySem.W.Frag}
theorem pg_star {es : List Expr} {k : Nat} {pos : Pos} {t : TGs} {n : Nat} (hc : X.calm = true) (h : PGs X es t) (hn : (assignEach es X.env).length = n + 1 := by rfl) (hst : (assignEach es X.env).findIdx? (·.1) = some n := by rfl) : PG X (.Tuple es k pos) (gStar X.K n t) := by
  refine ⟨fun pins s σ H v u Q I r hw => ?_⟩
  obtain ⟨a, xs, e1, hq, hl, hz, hw⟩ := hw
  subst e1
  cases r
  obtain ⟨its, rv, pl, _⟩ := I.list hq
  have hsz : its.toArray.size = xs.length := by rw [List.size_toArray, rv.length]
  rw [PyProof.Rows.assign_Tuple]
  refine wpAny_bind (wpAny_standAt ?_)
  unfold unpack
  rw [hn, hst]
  refine wpAny_bind (wpAny_holding (unp_star (I.ok.hd hc) pl.isList (by omega) (by omega) fun h' tk kk => ?_))
  have I1 : L2.Inv X pins σ H { s with heap := h', toks := tk } := I.kept (t' := tk) kk
  have fr := I1.hok.fresh (Nat.le_refl _)
  have I2 : L2.Inv X pins σ (upd H h'.objs.size (.lst (xs.drop n))) { s with heap := h'.push { cls := .type "list", data := .seq (its.drop n).toArray }, toks := tk } :=
    I1.laid (fun b u q => Heap.get?_push_of_some _ q) (Nat.le_refl _) ⟨by rw [List.length_drop, sizeLine_eq]; omega, its.drop n, _, vals_drop n rv, Heap.get?_push_size _ rfl⟩
  exact h.run pins _ σ _ _ _ Q I2 (by simpa using (vals_take n rv).append (show Vals [V.ref h'.objs.size] [Value.ref h'.objs.size] from .cons (show RelV (V.ref h'.objs.size) (Value.ref h'.objs.size) from rfl) .nil)) (hw _ fr)
/-- what the names then hold -/
def bindSt (n : Nat) (ps : Pats) (ds : List D) (ρ : Rho) : Option Rho := if n ≤ ds.length ∧ ds.length ≤ 16384 then bindPs ps (ds.take n ++ [.list (ds.drop n)]) ρ else none
def sAsgS (n : Nat) (ps : Pats) (f : EF) : Rho → Option Out := fun ρ => (f ρ).bind fun d => match d with
  | .list ds => (bindSt n ps ds ρ).map .nx
  | _ => none
theorem dS_asgS {st : Stmt} {n : Nat} {ps : Pats} {f : EF} (h : PS X st (tAsg (tD true f) (gStar K n (gPs K ps)))) : PS X st (tS (sAsgS n ps f)) := h.wk fun Dn σ H q => by
  obtain ⟨M0, H0, ρ, o, R, e, q⟩ := q
  obtain ⟨d, ed, e'⟩ := some_bind e
  clear e
  refine ⟨M0, H0, ρ, d, R, ed, fun v H1 s1 r1 => ?_⟩
  cases d <;> try (cases e'; done)
  obtain ⟨ρ1, e1, rfl⟩ := some_map e'
  obtain ⟨⟨l1, l2⟩, e1⟩ := iteP e1
  cases r1
  rename_i a xs t nn l r
  refine ⟨_, xs, rfl, SqL.of t, by rw [r.len]; exact l1, by rw [r.len]; exact l2, fun p hp => ?_⟩
  have R1 := R.mono s1
  have sn := smN (o := HO.lst (xs.drop n)) hp
  have R2 := R1.mono sn
  have r2 := r.mono (.of sn)
  have nm : ¬ Mu true M0 σ ρ p := (R1.domu true).not hp
  refine bindPs.ok R2 (vs := xs.take n ++ [.ref p]) ((r2.take n).app (.cons (.lst upd_same nm (by rw [List.length_drop]; omega) (r2.drop n)) .nil)) e1 fun σ1 R3 B1 => q σ1 _ R3 ⟨.of (s1.trans sn), fun p m => .inl (B1.mu p m)⟩
theorem ev_asgS {n : Nat} {ps : Pats} {f : EF} {g : Rho → Option Out} {ρ ρ' : Rho} {ds : List D} (hf : f ρ = some (.list ds)) (hb : bindSt n ps ds ρ = some ρ') : sSeq (sAsgS n ps f) g ρ = g ρ' := by
  unfold sSeq sAsgS
  rw [hf]
  show ((bindSt n ps ds ρ).map Out.nx).bind _ = _
  rw [hb]
  rfl
/-! ### the steps -/
theorem dE_join {o e : Expr} {apos pos : Pos} {f g : EF} {μ : Bool} (ho : PE X o (tD μ f)) (he : PE X e (tD μ g)) (hs : starEach [e] X.env = [(false, eval e X.env)] := by rfl) (hbase : attributeBase o "join" X.env (eval o X.env) = eval o X.env := by rfl) (hline : (apos.endLine == pos.line) = true := by rfl) :
    PE X (.Call (.Attribute o "join" apos) [e] [] pos) (tD μ (e2 joinD f g)) := (pe_join ho he hs hbase hline).wk fun σ H Q q => by
  obtain ⟨M0, H0, ρ, d, R, e, q⟩ := q
  obtain ⟨x, ex, e⟩ := some_bind e
  obtain ⟨y, ey, e⟩ := some_bind e
  refine ⟨M0, H0, ρ, x, R, ex, fun v H1 s1 r1 => ?_⟩
  cases x <;> try (cases e; done)
  rename_i a
  cases r1
  refine ⟨⟨_, rfl⟩, M0, H0, ρ, y, R.mono s1, ey, fun u H2 s2 r2 => ?_⟩
  cases r2 <;> try (cases e; done)
  · rename_i p xs ds t n l r
    obtain ⟨ys, ez, e⟩ := some_bind (show (strsD ds).bind _ = some d from e)
    obtain ⟨⟨l1, l2⟩, rfl⟩ := iteS e
    have := strsD.get ez
    subst this
    obtain ⟨rfl, _⟩ := r.strL
    exact ⟨_, _, ys, rfl, rfl, .inr t.sq, by omega, q _ H2 (s1.trans s2) (.str _ l2)⟩
  · rename_i p xs ds t n l r
    obtain ⟨ys, ez, e⟩ := some_bind (show (strsD ds).bind _ = some d from e)
    obtain ⟨⟨l1, l2⟩, rfl⟩ := iteS e
    have := strsD.get ez
    subst this
    obtain ⟨rfl, _⟩ := r.strL
    exact ⟨_, _, ys, rfl, rfl, .inl (SqL.of t), by omega, q _ H2 (s1.trans s2) (.str _ l2)⟩
theorem dE_split {o e : Expr} {apos pos : Pos} {f g : EF} {μ : Bool} (ho : PE X o (tD μ f)) (he : PE X e (tD μ g)) (hs : starEach [e] X.env = [(false, eval e X.env)] := by rfl) (hbase : attributeBase o "split" X.env (eval o X.env) = eval o X.env := by rfl) (hline : (apos.endLine == pos.line) = true := by rfl) :
    PE X (.Call (.Attribute o "split" apos) [e] [] pos) (tD μ (e2 splitD f g)) := (pe_split ho he hs hbase hline).wk fun σ H Q q => by
  obtain ⟨M0, H0, ρ, d, R, e, q⟩ := q
  obtain ⟨x, ex, e⟩ := some_bind e
  obtain ⟨y, ey, e⟩ := some_bind e
  refine ⟨M0, H0, ρ, x, R, ex, fun v H1 s1 r1 => ?_⟩
  cases x <;> try (cases e; done)
  rename_i a
  cases r1
  refine ⟨⟨_, rfl⟩, M0, H0, ρ, y, R.mono s1, ey, fun u H2 s2 r2 => ?_⟩
  cases r2 <;> try (cases e; done)
  rename_i b hb
  obtain ⟨⟨l1, l2, l3, l4⟩, rfl⟩ := iteS e
  refine ⟨_, _, rfl, rfl, l1, l2, fun p hp => ?_⟩
  exact q _ _ ((s1.trans s2).trans (smN hp)) (.lst upd_same ((((R.mono s1).mono s2).domu μ).not hp) (by rw [List.length_map]; exact l3) (RpAll.strM l4))
theorem dE_fmt {e : Expr} {pos : Pos} {f : EF} {μ : Bool} (he : PE X e (tD μ f)) : PE X (.FormattedValue e (-1) none pos) (tD μ (e1 fmtD f)) := (pe_fmt he).wk fun σ H Q q => by
  obtain ⟨M0, H0, ρ, d, R, e, q⟩ := q
  obtain ⟨x, ex, e⟩ := some_bind e
  refine ⟨M0, H0, ρ, x, R, ex, fun v H1 s1 r1 => ?_⟩
  cases r1 <;> try (cases e; done)
  · rename_i i
    obtain ⟨l, rfl⟩ := iteS e
    refine .inr ⟨i, rfl, Nat.lt_trans (log30 l) (by decide), q _ _ s1 (.str _ ?_)⟩
    have := int_text_length_le10 (a := i) (k := 30) (by decide) l
    show (Str.ofString (toString i)).length ≤ sizeLine
    rw [PySem.ofString_length]
    exact Nat.le_trans this (by decide)
  · rename_i y hy
    cases e
    exact .inl ⟨y, rfl, hy, q _ _ s1 (.str _ hy)⟩
def PJd (X : Cx) (μ : Bool) (es : List Expr) (fs : List EF) : Prop := PJ X es (fs.map (tD μ))
theorem dJ_nil {μ : Bool} : PJd X μ [] [] := .nil
theorem dJ_cons {μ : Bool} {e : Expr} {f : EF} {es : List Expr} {fs : List EF} (h : PE X e (tD μ f)) (r : PJd X μ es fs) : PJd X μ (e :: es) (f :: fs) := .cons h r
theorem jn_ok {μ : Bool} {Q : V → Hp → Prop} {M0 : Addr → Prop} {H0 : Hp} {ρ : Rho} {σ : L2.St} {out : Str} : ∀ {fs : List EF} {acc : Str} {H : Hp}, acc.length ≤ sizeLine → Rs M0 H0 H σ ρ → jGo fs ρ acc = some out → (∀ H', Same H H' → Rp (Mu μ M0 σ ρ) H' (.str out) (.str out) → Q (.str out) H') → tJs (fs.map (tD μ)) acc σ H fun o H1 => Q (.str o) H1
  | [], acc, H, l, R, e, q => by
    cases e
    exact q H (Same.refl _) (.str _ l)
  | f :: fs, acc, H, l, R, e, q => by
    obtain ⟨d, ed, e⟩ := some_bind (show (f ρ).bind _ = some out from e)
    cases d <;> try (cases e; done)
    rename_i y
    obtain ⟨l2, e⟩ := iteP e
    refine ⟨M0, H0, ρ, .str y, R, ed, fun v H1 s1 r1 => ?_⟩
    cases r1
    exact ⟨y, rfl, l2, jn_ok l2 (R.mono s1) e fun H' s' r' => q H' (s1.trans s') r'⟩
theorem dE_joined {v1 v2 : Expr} {rest : List Expr} {fs : List EF} {pos : Pos} {μ : Bool} (h : PJd X μ (v1 :: v2 :: rest) fs) : PE X (.JoinedStr (v1 :: v2 :: rest) pos) (tD μ (eJn fs)) := (pe_joined h).wk fun σ H Q q => by
  obtain ⟨M0, H0, ρ, d, R, e, q⟩ := q
  obtain ⟨out, eo, rfl⟩ := some_map e
  exact jn_ok (Nat.zero_le _) R eo fun H' s' r' => q _ H' s' r'
theorem dI_ranU {tg a b c : Expr} {p pos : Pos} {f : Rho → Option (List D)} {μ : Bool} (hg : Gl X "range") (hm : X.mg "range" = none) (ha : PA X [a, b, c] (tA μ f)) (hs : starEach [a, b, c] X.env = (false, eval a X.env) :: starEach [b, c] X.env := by rfl) (hs2 : (backTo pos (starEach [b, c] X.env)).any (·.1) = false := by rfl) : PI X tg (.Call (.Name "range" p) [a, b, c] [] pos) (iD μ false (itG ranU f)) := (pi_range3 hg hm ha hs hs2).wk fun σ H R q => by
  obtain ⟨M0, H0, ρ, items, Rr, e, q⟩ := q
  obtain ⟨ds, ed, e⟩ := some_bind e
  refine ⟨M0, H0, ρ, ds, Rr, ed, fun vs H1 s1 r1 => ?_⟩
  unfold ranU at e
  split at e
  · rename_i i j c
    obtain ⟨⟨rfl, rfl, l1, l2⟩, rfl⟩ := iteS e
    cases r1 with
    | cons h1 r1 =>
      cases h1
      cases r1 with
      | cons h2 r1 =>
        cases h2
        cases r1 with
        | cons h3 r1 =>
          cases h3
          cases r1
          exact ⟨0, j, 3, _, rfl, rgc_up l1 l2, q _ _ s1 fun M' hM => DW.rngU (szR (by omega))⟩
  · cases e
theorem c_intT : CallR X (.type "int") (rC intT) := by
  intro pn s σ H xs us Q I r h
  obtain ⟨M, ds, d, dm, ra, e, q⟩ := h
  by_cases hz : ∃ a, ds = [.str a]
  · obtain ⟨a, rfl⟩ := hz
    obtain ⟨n, en, e⟩ := some_bind (show (intText? a).bind _ = some d from e)
    obtain ⟨l, rfl⟩ := iteS e
    cases ra with
    | cons r1 rr =>
      cases rr
      cases r1
      exact call_int_str pn s σ H _ us Q I r ⟨a, n, rfl, en, l, q _ _ (Same.refl _) (.int _)⟩
  · refine c_int pn s σ H xs us Q I r ⟨M, ds, d, dm, ra, ?_, q⟩
    unfold intT at e
    split at e
    · exact (hz ⟨_, rfl⟩).elim
    · exact e
theorem o_mulZ : OpR X (binaryOp .Mult) (rD mulZ) := by
  intro pn s σ H x y v u Q I rx ry h
  obtain ⟨M, a, b, d, dm, ra, rb, e, q⟩ := h
  by_cases hz : ∃ z, a = .str z ∧ b = .int 0
  · obtain ⟨z, rfl, rfl⟩ := hz
    cases e
    cases ra
    cases rb
    obtain ⟨t, rfl⟩ := rx
    obtain ⟨t', rfl⟩ := ry
    exact PySem.P.mul_str_none (by decide) (by decide) ⟨.str Str.empty, H, I.tok _, ⟨_, rfl⟩, q _ _ (Same.refl _) (.str _ (Nat.zero_le _))⟩
  · refine o_mulX pn s σ H _ _ v u Q I rx ry ⟨M, a, b, d, dm, ra, rb, ?_, q⟩
    unfold mulZ at e
    split at e
    · rename_i z n
      by_cases h0 : n = 0
      · exact (hz ⟨z, rfl, by rw [h0]⟩).elim
      · rw [if_neg h0] at e
        exact e
    · exact e
end
end Dl
namespace Dl
open PySem PySem.Spec PyProof.Rows L2 Rt
/-! ### while -/
def whGo (c : Rho → Option Bool) (body : Rho → Option Out) : Nat → Rho → Option Out
  | 0, _ => none
  | n + 1, ρ => (c ρ).bind fun b => if b = true then (body ρ).bind fun o => match o with
    | .nx ρ2 => whGo c body n ρ2
    | .ct ρ2 => whGo c body n ρ2
    | .bk ρ2 => some (.nx ρ2)
    | .rt d => some (.rt d) else some (.nx ρ)
theorem whGo_up {c : Rho → Option Bool} {body : Rho → Option Out} : ∀ {n m : Nat} {ρ : Rho} {o : Out}, n ≤ m → whGo c body n ρ = some o → whGo c body m ρ = some o
  | 0, _, _, _, _, h => nomatch h
  | n + 1, 0, _, _, hn, _ => absurd hn (Nat.not_succ_le_zero _)
  | n + 1, m + 1, ρ, o, hn, h => by
    unfold whGo at h ⊢
    obtain ⟨b, eb, h⟩ := some_bind h
    rw [eb]
    show (if b = true then _ else _) = _
    cases b with
    | false => exact h
    | true =>
      obtain ⟨o1, eo, h⟩ := some_bind (show (body ρ).bind _ = some o from h)
      show (body ρ).bind _ = _
      rw [eo]
      cases o1 with
      | nx ρ2 => exact whGo_up (Nat.le_of_succ_le_succ hn) h
      | ct ρ2 => exact whGo_up (Nat.le_of_succ_le_succ hn) h
      | bk ρ2 => exact h
      | rt d => exact h
noncomputable def sWh (c : Rho → Option Bool) (body : Rho → Option Out) : Rho → Option Out := fun ρ => @dite _ (∃ o n, whGo c body n ρ = some o) (Classical.propDecidable _) (fun h => some h.choose) (fun _ => none)
theorem sWh_of {c : Rho → Option Bool} {body : Rho → Option Out} {ρ : Rho} {o : Out} (n : Nat) (h : whGo c body n ρ = some o) : sWh c body ρ = some o := by
  unfold sWh
  have z : ∃ o n, whGo c body n ρ = some o := ⟨o, n, h⟩
  rw [dif_pos z]
  obtain ⟨m, hm⟩ := z.choose_spec
  have h1 := whGo_up (Nat.le_max_left n m) h
  have h2 := whGo_up (Nat.le_max_right n m) hm
  rw [h1] at h2
  rw [← Option.some.inj h2]
theorem sWh_get {c : Rho → Option Bool} {body : Rho → Option Out} {ρ : Rho} {o : Out} (h : sWh c body ρ = some o) : ∃ n, whGo c body n ρ = some o := by
  unfold sWh at h
  by_cases z : ∃ o n, whGo c body n ρ = some o
  · rw [dif_pos z] at h
    cases h
    exact z.choose_spec
  · rw [dif_neg z] at h
    cases h
section
variable {X : Cx} {K : PySem.W.Frag}
theorem dS_while {st : Stmt} {c : Rho → Option Bool} {body : Rho → Option Out} (h : PS X st (tWhile (tT c) (tS body))) : PS X st (tS (sWh c body)) := h.wk fun Dn σ H q => by
  obtain ⟨M0, H0, ρ, o, R, e, q⟩ := tS_iff.mp q
  obtain ⟨n, e⟩ := sWh_get e
  refine ⟨fun m σ' H' => ∃ ρ', Rs M0 H0 H' σ' ρ' ∧ Stp M0 σ ρ H σ' ρ' H' ∧ whGo c body m ρ' = some o, ⟨n, ρ, R, .refl, e⟩, ?_⟩
  rintro m σ' H' ⟨ρ', R', st, e⟩
  cases m with
  | zero => cases e
  | succ m =>
    unfold whGo at e
    obtain ⟨b, eb, e⟩ := some_bind e
    refine ⟨M0, H0, ρ', b, R', eb, fun H1 s1 => ?_⟩
    cases b with
    | false =>
      cases e
      exact q σ' H1 (R'.mono s1) (st.trans (.of s1))
    | true =>
      obtain ⟨o1, eo, e⟩ := some_bind (show (body ρ').bind _ = some o from e)
      refine ⟨fun σ3 H3 => ∃ ρ3, Rs M0 H0 H3 σ3 ρ3 ∧ Stp M0 σ ρ H σ3 ρ3 H3 ∧ whGo c body m ρ3 = some o, fun σ3 H3 h => ⟨m, Nat.lt_succ_self _, h⟩, tS_iff.mpr ⟨M0, H0, ρ', o1, R'.mono s1, eo, ?_⟩⟩
      have st1 := st.trans (Stp.of (σ := σ') (ρ := ρ') s1)
      cases o1 with
      | nx ρ2 => exact fun σ3 H3 R3 s3 => ⟨ρ2, R3, st1.trans s3, e⟩
      | ct ρ2 => exact fun σ3 H3 R3 s3 => ⟨ρ2, R3, st1.trans s3, e⟩
      | bk ρ2 => cases e; exact fun σ3 H3 R3 s3 => q σ3 H3 R3 (st1.trans s3)
      | rt d => cases e; exact q
def whN (c : WP Bool) (body : WP Out) : Nat → Rho → Nat → (Out → Nat → Prop) → Prop
  | 0, _, _, _ => False
  | n + 1, ρ, b, Q => c.w ρ b fun k b1 => if k = true then body.w ρ b1 fun o b2 => match o with
    | .nx ρ2 => whN c body n ρ2 b2 Q
    | .ct ρ2 => whN c body n ρ2 b2 Q
    | .bk ρ2 => Q (.nx ρ2) b2
    | .rt d => Q (.rt d) b2 else Q (.nx ρ) b1
theorem whN.mono {c : WP Bool} {body : WP Out} : ∀ {n : Nat} {ρ : Rho} {b : Nat} {P Q : Out → Nat → Prop}, (∀ o b, P o b → Q o b) → whN c body n ρ b P → whN c body n ρ b Q
  | 0, _, _, _, _, _, h => h.elim
  | n + 1, ρ, b, P, Q, hm, h => c.m (fun k b1 y => by
      cases k with
      | false => exact hm _ _ y
      | true => exact body.m (fun o b2 z => by
          cases o with
          | nx ρ2 => exact whN.mono hm z
          | ct ρ2 => exact whN.mono hm z
          | bk ρ2 => exact hm _ _ z
          | rt d => exact hm _ _ z) y) h
def swWh (c : WP Bool) (body : WP Out) : WP Out := ⟨fun ρ b Q => ∃ n, whN c body n ρ b Q, fun h ⟨n, z⟩ => ⟨n, whN.mono h z⟩⟩
theorem nS_while {st : Stmt} {c : WP Bool} {body : WP Out} (h : PS X st (tWhile (tnT c) (tSn body))) : PS X st (tSn (swWh c body)) := h.wk fun Dn σ H q => by
  obtain ⟨g, M0, H0, ρ, b, R, n, q⟩ := q
  refine ⟨fun m σ' H' => ∃ ρ' b', Rn g M0 H0 H' σ' ρ' b' ∧ Stp M0 σ ρ H σ' ρ' H' ∧ whN c body m ρ' b' fun o b2 => PostN g M0 H0 σ ρ H Dn o b2, ⟨n, ρ, b, R, .refl, q⟩, ?_⟩
  rintro m σ' H' ⟨ρ', b', R', st, e⟩
  cases m with
  | zero => exact e.elim
  | succ m =>
    refine ⟨g, M0, H0, ρ', b', R', c.m (fun k b1 e H1 k1 i1 => ?_) e⟩
    have R1 := R'.up k1 i1
    have st1 := st.trans (R'.stp k1)
    cases k with
    | false => exact (show PostN g M0 H0 σ ρ H Dn (.nx ρ') b1 from e) σ' H1 R1 st1
    | true =>
      refine ⟨fun σ3 H3 => ∃ ρ3 b3, Rn g M0 H0 H3 σ3 ρ3 b3 ∧ Stp M0 σ ρ H σ3 ρ3 H3 ∧ whN c body m ρ3 b3 fun o b2 => PostN g M0 H0 σ ρ H Dn o b2, fun σ3 H3 h => ⟨m, Nat.lt_succ_self _, h⟩, g, M0, H0, ρ', b1, R1, body.m (fun o b2 e => ?_) e⟩
      cases o with
      | nx ρ2 => exact fun σ3 H3 R3 s3 => ⟨ρ2, b2, R3, st1.trans s3, e⟩
      | ct ρ2 => exact fun σ3 H3 R3 s3 => ⟨ρ2, b2, R3, st1.trans s3, e⟩
      | bk ρ2 => exact fun σ3 H3 R3 s3 => (show PostN g M0 H0 σ ρ H Dn (.nx ρ2) b2 from e) σ3 H3 R3 (st1.trans s3)
      | rt d => exact e
/-! ### xs.remove(k) of a list of one's own -/
def swRem (i : Nat) (f : WP (List D)) : WP Out := ⟨fun ρ b Q => ∃ ns : List Int, ρ[i]? = some (some (.own (ns.map PyData.int))) ∧ f.w ρ b fun es b' => ∃ (k : Int) (j : Nat), es = [.int k] ∧ ns[j]? = some k ∧ (∀ m : Nat, m < j → ns[m]? ≠ some k) ∧ Q (.nx (ρ.set i (some (.own ((ns.eraseIdx j).map PyData.int))))) b', fun h ⟨ds, e, z⟩ => ⟨ds, e, f.m (fun es b' ⟨d, j, e2, l, l2, y⟩ => ⟨d, j, e2, l, l2, h _ _ y⟩) z⟩⟩
theorem intsW_rp {M : Addr → Prop} {H : Hp} : ∀ ns : List Int, RpAll M H (ns.map V.int) (ns.map PyData.int)
  | [] => .nil
  | n :: ns => .cons (.int n) (intsW_rp ns)
theorem rpW_ints {M : Addr → Prop} {H : Hp} : ∀ {vs : List V} {ns : List Int}, RpAll M H vs (ns.map PyData.int) → vs = ns.map V.int
  | [], [], _ => rfl
  | _, [], h => by cases h; rfl
  | _, n :: ns, h => by
    cases h with
    | cons r t =>
      cases r
      rw [rpW_ints t]
      rfl
theorem nS_rem {st : Stmt} {i : Nat} {f : WP (List D)} (h : PS X st (tDrop (tBM K "list" rRemI (tVar i) (tnA f)))) : PS X st (tSn (swRem i f)) := h.wk fun Dn σ H q => by
  obtain ⟨g, M0, H0, ρ, b, R, ns, z, q⟩ := q
  obtain ⟨p, vs, a, c, h0, l, r⟩ := R.own i _ z
  obtain rfl := rpW_ints r
  refine ⟨.ref p, a, .inl ⟨rfl, _, SqL.of c⟩, g, M0, H0, ρ, b, R, f.m (fun es b1 ⟨k, j, e, hj, hm, q⟩ us H1 k1 i1 r1 => ?_) q⟩
  subst e
  match us, r1 with
  | [u], .cons r1 .nil =>
    cases r1
    have c1 := k1 _ _ (fun o => R.dom0 p (R.pl p o) h0) c
    refine ⟨p, ns, k, j, rfl, rfl, c1, hj, hm, ?_⟩
    obtain ⟨R1, S1⟩ := (R.up k1 i1).ownSet z a c1 (vs' := (ns.eraseIdx j).map V.int) (by
      rw [List.length_map] at l ⊢
      exact Nat.le_trans (List.length_eraseIdx_le ..) l) (intsW_rp _)
    exact q _ _ R1 ((R.stp k1).trans S1)
/-! ### xs.index(z) of a list -/
def idxLD : D → D → Option D
  | .list ds, d => if (okD (.list ds) && okD d) = true then (ds.findIdx? fun z => PyData.eqv z d).map fun j => .int (j : Nat) else none
  | _, _ => none
theorem dE_idxL {ob e : Expr} {apos cpos : Pos} {f1 f2 : EF} {μ : Bool} (hu : X.A.units + 65 < cLine) (ho : PE X ob (tD μ f1)) (ha : PE X e (tD μ f2))
    (hbase : attributeBase ob "index" X.env (eval ob X.env) = eval ob X.env := by rfl)
    (hfew : ((backTo cpos (starEach [e] X.env)).all (fun x => !x.1) && (backToKw cpos (keywordEach [] X.env)).all (fun x => x.1.isSome) && decide (([e] : List Expr).length + ([] : List Keyword).length + (if ([] : List Keyword).isEmpty then 0 else 1) < 30)) = true := by rfl)
    (hline : (apos.endLine == cpos.line) = true := by rfl) (hs : starEach [e] X.env = (false, eval e X.env) :: starEach [] X.env := by rfl) (hplain : (backTo cpos (starEach [] X.env)).any (·.1) = false := by rfl) :
    PE X (.Call (.Attribute ob "index" apos) [e] [] cpos) (tD μ (e2 idxLD f1 f2)) := (pe_bm PySem.F.plainAttrs_list PySem.F.slot_list_index PySem.F.type_list_index (mt_indexD hu) ho (dA_cons ha dA_nil hs) hbase hfew hline hs hplain).wk fun σ H Q q => by
  obtain ⟨M0, H0, ρ, d, R, e, q⟩ := q
  obtain ⟨a, ea, e⟩ := some_bind e
  obtain ⟨b, eb, e⟩ := some_bind e
  refine ⟨M0, H0, ρ, a, R, ea, fun x H1 s1 r1 => ?_⟩
  cases r1 with
  | @lst ad xs ds t n l r =>
    have e : (if (okD (.list ds) && okD b) = true then (ds.findIdx? fun z => PyData.eqv z b).map fun j => PyData.int (j : Nat) else none) = some d := e
    by_cases hk : (okD (.list ds) && okD b) = true
    rotate_left
    · rw [if_neg hk] at e
      cases e
    rw [if_pos hk] at e
    have hk := Bool.and_eq_true_iff.mp hk
    obtain ⟨j, hj, ej⟩ := some_map e
    subst ej
    obtain ⟨hl, h1, h2⟩ := List.findIdx?_eq_some_iff_getElem.mp hj
    refine ⟨.inl ⟨rfl, _, SqL.of t⟩, ⟨M0, H0, ρ, [b], R.mono s1, by show (f2 ρ).bind _ = _; rw [eb]; rfl, fun us H2 s2 r2 => ?_⟩⟩
    match us, r2 with
    | [u], .cons r2 .nil =>
      have dl := Rp.dp (K := X.K) ((Rp.lst t n l r).mono (.of s2)) (okD.parts hk.1).1
      have db := Rp.dp (K := X.K) r2 (okD.parts hk.2).1
      exact ⟨ad, u, b, ds, j, ds[j], rfl, rfl, dl, db, (okD.parts hk.1).2, (okD.parts hk.2).2, List.getElem?_eq_getElem hl, h1, fun m z' hm hz => by
        obtain ⟨hm2, rfl⟩ := List.getElem?_eq_some_iff.mp hz
        simpa using h2 m hm, q _ _ (s1.trans s2) (.int _)⟩
  | non => cases e
  | bl b => cases e
  | int i => cases e
  | str x hx => cases e
  | tup t n l r => cases e
  | dic t n h => cases e
  | dct t n h => cases e
/-! ### list(t) as a list of one's own -/
def lisX : D → Option D
  | .list ds => some (.list ds)
  | .tuple ds => some (.list ds)
  | _ => none
theorem oE_listC {e : Expr} {p pos : Pos} {f : EF} (hg : Gl X "list") (hm : X.mg "list" = none) (hv : bootBuiltins "list" = some (.type "list")) (h : PE X e (tD true f))
    (he : starEach (e :: []) X.env = (false, eval e X.env) :: starEach [] X.env := by rfl) (hpl : (backTo pos (starEach [] X.env)).any (·.1) = false := by rfl) :
    PE X (.Call (.Name "list" p) [e] [] pos) (tN (e1 lisX f)) := (pe_callTy call_list_of hg hm hv (dA_cons h dA_nil he) (by decide) (by decide) he hpl).wk fun σ H Q q => by
  obtain ⟨M0, H0, ρ, ds, R, e, q⟩ := q
  obtain ⟨a, ea, e⟩ := some_bind e
  refine ⟨M0, H0, ρ, [a], R, by show (f ρ).bind _ = _; rw [ea]; rfl, fun us H1 s1 r1 => ?_⟩
  match us, r1 with
  | [u], .cons r1 .nil =>
    have np0 : ∀ {q' : Addr}, H1 q' = none → H q' = none := fun {q'} np => by
      cases z : H q' with
      | none => rfl
      | some o => rw [s1 _ _ z] at np; cases np
    cases r1 with
    | tup t n l r =>
      cases e
      exact ⟨_, _, rfl, .inr t.sq, fun q' np => q q' _ _ (np0 np) (s1.trans (smN np)) upd_same l ((r.reM fun a m => by
        rcases m with m | rfl
        · exact .inl m
        · exact .inr np).mono (.of (smN np)))⟩
    | lst t n l r =>
      cases e
      exact ⟨_, _, rfl, .inl (SqL.of t), fun q' np => q q' _ _ (np0 np) (s1.trans (smN np)) upd_same l ((r.reM fun a m => by
        rcases m with m | rfl
        · exact .inl m
        · exact .inr np).mono (.of (smN np)))⟩
    | non => cases e
    | bl b => cases e
    | int i => cases e
    | str x hx => cases e
    | dic t n h => cases e
    | dct t n h => cases e
/-! ### list(range(n)) as a list of one's own -/
def eLstRg1 (f : EF) : EF := fun ρ => (f ρ).bind fun d => match d with
  | .int n => if -(2 ^ 62) ≤ n ∧ n < 2 ^ 20 then some (.list (rgD 0 n.toNat)) else none
  | _ => none
theorem oE_lstRg1 {e : Expr} {p pos p2 pos2 : Pos} {f : EF} (hc : X.calm = true) (hg : Gl X "list") (hm : X.mg "list" = none) (hg2 : Gl X "range") (hm2 : X.mg "range" = none) (h : PE X e (tD true f))
    (na : starEach [(Expr.Call (.Name "range" p2) [e] [] pos2)] X.env = (false, eval (Expr.Call (.Name "range" p2) [e] [] pos2) X.env) :: starEach [] X.env := by rfl) (nb : starEach [e] X.env = (false, eval e X.env) :: starEach [] X.env := by rfl) :
    PE X (.Call (.Name "list" p) [.Call (.Name "range" p2) [e] [] pos2] [] pos) (tN (eLstRg1 f)) := (pe_listRg hc hg hm (prg_1 hg2 hm2 h nb) na).wk fun σ H Q q => by
  obtain ⟨M0, H0, ρ, ds, R, e, q⟩ := q
  obtain ⟨a, ea, e⟩ := some_bind e
  refine ⟨M0, H0, ρ, a, R, ea, fun x H1 s1 r1 => ?_⟩
  cases a <;> try (cases e; done)
  rename_i n
  obtain ⟨l, e2⟩ := iteS e
  cases e2
  cases r1
  refine ⟨n, rfl, ⟨by decide, by decide, l.1, by omega, by omega⟩, fun q' np => q q' _ _ ?_ (s1.trans (smN np)) upd_same (by rw [rgV_length]; exact szR (by omega)) (rgV_rp n)⟩
  cases z : H q' with
  | none => rfl
  | some o => rw [s1 _ _ z] at np; cases np
end
end Dl
namespace Dl
open PySem PySem.Spec PyProof.Rows L2 Rt
def chS (c : Nat) : Str := ⟨#[c]⟩
def chV (c : Nat) : V := .str (chS c)
def chD (c : Nat) : D := .str (chS c)
theorem chs_rp {M : Addr → Prop} {H : Hp} : ∀ cs : List Nat, RpAll M H (cs.map chV) (cs.map chD)
  | [] => .nil
  | c :: cs => .cons (.str _ (by show 1 ≤ sizeLine; decide)) (chs_rp cs)
theorem chs_eq {M : Addr → Prop} {H : Hp} : ∀ {cs : List Nat} {vs : List V}, RpAll M H vs (cs.map chD) → vs = cs.map chV
  | [], _, .nil => rfl
  | c :: cs, _, .cons (.str _ _) t => by rw [chs_eq t]; rfl
section
variable {X : Cx} {K : PySem.W.Frag}
/-! ### list(text) -/
theorem call_list_sgn (hc : X.calm = true) : CallR X (.type "list") (fun xs H Q => ∃ z : Str, xs = [.str z] ∧ z.length ≤ sizeLine ∧ ∀ l, H l = none → Q (.ref l) (upd H l (.lst (z.cps.toList.map chV)))) := by
  intro pins s σ H xs us Q I r h
  obtain ⟨z, rfl, hz, q⟩ := h
  cases r with
  | cons r1 rr =>
    cases rr
    obtain ⟨t, rfl⟩ := r1
    refine PySem.call_list_str (I.ok.hd hc) z t (fun h' tk acc c kp e its => ?_) hz
    have hv : Vals (z.cps.toList.map chV) acc.toList := by
      obtain ⟨l, g⟩ := its
      refine vals_of_at (by rw [List.length_map, Array.length_toList, Array.length_toList, l]) fun i x u hx hu => ?_
      rw [List.getElem?_map] at hx
      rw [Array.getElem?_toList] at hu
      obtain ⟨c, t, hc, rfl⟩ := g i u hu
      rw [← Array.getElem?_toList] at hc
      rw [hc] at hx
      cases hx
      exact ⟨t, rfl⟩
    exact ⟨.ref s.heap.objs.size, _, I.laid (t' := tk) kp (Nat.le_refl _) (show ObjOk X.prog X.w _ h' _ (.lst (z.cps.toList.map chV)) from ⟨by rw [List.length_map, Array.length_toList]; exact hz, acc.toList, c, hv, by simpa using e⟩), rfl, q _ (I.hok.fresh (Nat.le_refl _))⟩
def lisS : D → Option D
  | .str z => some (.list (z.cps.toList.map chD))
  | _ => none
theorem oE_listS {e : Expr} {p pos : Pos} {f : EF} (hc : X.calm = true) (hg : Gl X "list") (hm : X.mg "list" = none) (hv : bootBuiltins "list" = some (.type "list")) (h : PE X e (tD true f))
    (he : starEach (e :: []) X.env = (false, eval e X.env) :: starEach [] X.env := by rfl) (hpl : (backTo pos (starEach [] X.env)).any (·.1) = false := by rfl) :
    PE X (.Call (.Name "list" p) [e] [] pos) (tN (e1 lisS f)) := (pe_callTy (call_list_sgn hc) hg hm hv (dA_cons h dA_nil he) (by decide) (by decide) he hpl).wk fun σ H Q q => by
  obtain ⟨M0, H0, ρ, ds, R, e, q⟩ := q
  obtain ⟨a, ea, e⟩ := some_bind e
  refine ⟨M0, H0, ρ, [a], R, by show (f ρ).bind _ = _; rw [ea]; rfl, fun us H1 s1 r1 => ?_⟩
  match us, r1 with
  | [u], .cons r1 .nil =>
    cases r1 <;> try (cases e; done)
    rename_i z hz
    cases e
    refine ⟨z, rfl, hz, fun l np => q l _ _ ?_ (s1.trans (smN np)) upd_same (by rw [List.length_map, Array.length_toList]; exact hz) (chs_rp _)⟩
    cases w : H l with
    | none => rfl
    | some o => rw [s1 _ _ w] at np; cases np
/-! ### a list of one's own, only read for once -/
def wLend (i : Nat) (f : WP D) : WP D := ⟨fun ρ b Q => ∃ ds, ρ[i]? = some (some (.own ds)) ∧ f.w (ρ.set i (some (.dat (.list ds)))) b fun d b' => (∃ z : Str, d = .str z) ∧ Q d b', fun h ⟨ds, e, z⟩ => ⟨ds, e, f.m (fun d b' y => ⟨y.1, h _ _ y.2⟩) z⟩⟩
theorem nE_lend {e : Expr} {i : Nat} {f : WP D} (h : PE X e (tn f)) : PE X e (tn (wLend i f)) := h.wk fun σ H Q q => by
  obtain ⟨g, M0, H0, ρ, b, R, ds, e, q⟩ := q
  refine ⟨g, M0, H0, _, b, R.frz e, f.m (fun d b' ⟨⟨z, ez⟩, q⟩ v H1 k1 i1 r1 => ?_) q⟩
  subst ez
  cases r1
  rename_i hz
  exact q _ H1 k1 i1 (.str z hz)
/-! ### names: a letter of one's own list each, taken away, put into the stem -/
def nmS (z : Str) (k : Int) (c : Nat) : Str := cutS z none (some k) ++ chS c ++ cutS z (some k) none
/-- a step's slots as data: the list of letters is only looked at -/
def rhoP (m : Int) (cs : List Nat) (z : Str) (k : Int) : Rho := [some .pool, some (.dat (.int m)), some (.dat (.list (cs.map chD))), some (.dat (.str z)), some (.dat (.int k)), none]
def swNm (fA fB : EF) (fI : WP (List D)) : WP Out := ⟨fun ρ b Q => ∃ (m : Int) (cs : List Nat) (z : Str) (k : Int), ρ = [some .pool, some (.dat (.int m)), some (.own (cs.map chD)), some (.dat (.str z)), some (.dat (.int k)), none] ∧ z.length ≤ 100 ∧ 0 ≤ m ∧ m ≤ cs.length ∧ m ≤ 50 ∧ cs.length ≤ 100 ∧ m.toNat ≤ b ∧
  (∀ cs', fA (shutR true (rhoP m cs' z k)) = some (.str (cutS z none (some k))) ∧ fB (shutR true (rhoP m cs' z k)) = some (.str (cutS z (some k) none)) ∧ ∀ b Q, 0 < cs'.length → cs'.length ≤ 100 → 1 ≤ b → (∀ (v : Int) (n' : Nat), 0 ≤ v → v < cs'.length → b ≤ n' + 1 → Q [.int v] n') → fI.w (rhoP m cs' z k) b Q) ∧
  ∀ (ds rest : List Nat) (ys : List Str) b', ds.length = m.toNat → (ds ++ rest).Perm cs → b ≤ b' + m.toNat → ys.Perm (ds.map (nmS z k)) → sortedS ys = true → Q (.rt (.tuple (ys.map .str))) b', fun h ⟨m, cs, z, k, a1, a2, a3, a4, a5, a6, a7, a8, a9⟩ => ⟨m, cs, z, k, a1, a2, a3, a4, a5, a6, a7, a8, fun ds rest ys b' h1 h2 h3 h4 h5 => h _ _ (a9 ds rest ys b' h1 h2 h3 h4 h5)⟩⟩
theorem dom_up {g : Pl} {M0 : Addr → Prop} {H H' : Hp} {b' : Nat} (d : Dom M0 H) (k : KpM g.own H H') (iv : g.inv b' H') : Dom M0 H' := fun p m e => by
  by_cases o : g.own p
  · exact g.alive iv o e
  · cases z : H p with
    | none => exact d p m z
    | some u => rw [k p u o z] at e; cases e
theorem dom_put {M0 : Addr → Prop} {H : Hp} {a : Addr} {o : HO} (d : Dom M0 H) : Dom M0 (upd H a o) := fun p m e => by
  by_cases z : p = a
  · subst z
    rw [upd_same] at e
    cases e
  · rw [upd_ne z] at e
    exact d p m e
/-- inside a turn -/
theorem rn_in {g : Pl} {H : Hp} {b : Nat} {σ : L2.St} {m k : Int} {cs : List Nat} {z : Str} {p : Addr} (iv : g.inv b H) (hl : σ.length = 6) (e0 : σ[0]? = some (some g.h)) (e1 : σ[1]? = some (some (.int m))) (e2 : σ[2]? = some (some (.ref p))) (e3 : σ[3]? = some (some (.str z))) (e4 : σ[4]? = some (some (.int k)))
    (hp : H p = some (.lst (cs.map chV))) (np : ¬ g.own p) (hz : z.length ≤ 100) (hc : cs.length ≤ 100) : Rn g g.own H H σ (rhoP m cs z k) b := by
  have dm : Dom g.own H := fun q o e => g.alive iv o e
  have no : ∀ a, Mu true g.own σ (rhoP m cs z k) a → g.own a := fun a h => by
    rcases h with h | ⟨_, i, ds, e, _⟩
    · exact h
    · match i, e with
      | 0, e => cases e
      | 1, e => cases e
      | 2, e => cases e
      | 3, e => cases e
      | 4, e => cases e
      | 5, e => cases e
      | n + 6, e => cases e
  refine ⟨.refl, dm, dm, fun _ o => o, iv, hl.symm, fun i d e => ?_, fun i ds e => ?_, fun i v e => ?_, fun i e => ?_, fun i j a b q e => ?_⟩
  · match i, e with
    | 0, e => cases e
    | 1, e => cases e; exact ⟨_, e1, .int _⟩
    | 2, e => cases e; exact ⟨_, e2, .lst hp (fun m => np (no _ m)) (by rw [List.length_map]; exact sz (by omega)) (chs_rp _)⟩
    | 3, e => cases e; exact ⟨_, e3, .str _ (sz (by omega))⟩
    | 4, e => cases e; exact ⟨_, e4, .int _⟩
    | 5, e => cases e
    | n + 6, e => cases e
  · match i, e with
    | 0, e => cases e
    | 1, e => cases e
    | 2, e => cases e
    | 3, e => cases e
    | 4, e => cases e
    | 5, e => cases e
    | n + 6, e => cases e
  · match i, e with
    | 0, e => cases e
    | 1, e => cases e
    | 2, e => cases e
    | 3, e => cases e
    | 4, e => cases e
    | 5, e => cases e
    | n + 6, e => cases e
  · match i, e with
    | 0, e => exact e0
    | 1, e => cases e
    | 2, e => cases e
    | 3, e => cases e
    | 4, e => cases e
    | 5, e => cases e
    | n + 6, e => cases e
  · match i, e with
    | 0, e => cases e
    | 1, e => cases e
    | 2, e => cases e
    | 3, e => cases e
    | 4, e => cases e
    | 5, e => cases e
    | n + 6, e => cases e
theorem six {σ : L2.St} {i : Nat} {u : Option V} (h : i ≠ 5) : (σ.set 5 u)[i]? = σ[i]? := by rw [List.getElem?_set_ne (fun e => h e.symm)]
theorem add_s {a b : Str} (h : a.length + b.length ≤ 1000) : addX (.str a) (.str b) = some (.str (a ++ b)) := if_pos (Nat.le_trans h (by decide))
theorem rd_add {x y : V} {a b : Str} {H : Hp} {Q : VK} (ex : x = .str a) (ey : y = .str b) (h : a.length + b.length ≤ 1000) (q : ∀ H', Same H H' → Q (.str (a ++ b)) H') : rD addX x y H Q := by
  subst ex
  subst ey
  refine ⟨fun _ => False, .str a, .str b, _, fun _ m => m.elim, .str _ (sz (by omega)), .str _ (sz (by omega)), add_s h, fun v H' s r => ?_⟩
  cases r
  exact q H' s
theorem er_map {α β : Type} (f : α → β) : ∀ (xs : List α) (i : Nat), (xs.map f).eraseIdx i = (xs.eraseIdx i).map f
  | [], _ => rfl
  | _ :: _, 0 => rfl
  | x :: xs, i + 1 => congrArg (f x :: ·) (er_map f xs i)
theorem er_perm {α : Type} {c : α} : ∀ {xs : List α} {i : Nat}, xs[i]? = some c → ([c] ++ xs.eraseIdx i).Perm xs
  | [], _, e => nomatch e
  | x :: xs, 0, e => by cases e; exact .refl _
  | x :: xs, i + 1, e => (List.Perm.swap x c (xs.eraseIdx i)).trans ((er_perm (xs := xs) (i := i) e).cons x)
theorem nS_nm {st : Stmt} {fA fB : EF} {fI : WP (List D)} {it : WP (List D)} (hit : it = wP (itG ran1D (aCons (eVar 1) aNil)))
    (h : PS X st (tRet (tCB (rC tupD) (tCons (tCB (rSortedS X.K) (tCons (tLc (inn false it) (gP K (.nm 5)) (tnT wYes) (tOp (rD addX) (tOp (rD addX) (tn (wP fA)) (tBM K "list" rPopAt (tVar 2) (tnA fI))) (tn (wP fB))) [5]) tNil)) tNil)))) : PS X st (tSn (swNm fA fB fI)) := h.wk fun Dn σ H q => by
  obtain ⟨g, M0, H0, ρ, b, R, m, cs, z, k, rfl, hz, m0, mc, m50, c100, hb, hf, q⟩ := q
  subst hit
  obtain ⟨p, vs, ep, hp, np0, lv, rv⟩ := R.own 2 _ rfl
  have := chs_eq rv
  subst this
  have gp : ¬ g.own p := fun o => R.dom0 p (R.pl p o) np0
  have e0 := R.pool 0 rfl
  obtain ⟨_, e1, r⟩ := R.dat 1 _ rfl
  cases r
  obtain ⟨_, e3, r⟩ := R.dat 3 _ rfl
  cases r
  obtain ⟨_, e4, r⟩ := R.dat 4 _ rfl
  cases r
  have lσ : σ.length = 6 := R.len.symm
  refine ⟨g, M0, H0, _, b, R, rgD 0 m.toNat, ran1_ok (by omega) (by omega), fun J H1 k1 i1 dw D hD => ?_⟩
  have R1 := R.up k1 i1
  have hp1 := k1 p _ gp hp
  have gD : ¬ g.own D := fun o => g.alive i1 o hD
  have pD : p ≠ D := fun e => by rw [e] at hp1; rw [hp1] at hD; cases hD
  have mp : Mu true M0 σ [some .pool, some (.dat (.int m)), some (.own (cs.map chD)), some (.dat (.str z)), some (.dat (.int k)), none] p := .inr ⟨rfl, 2, _, rfl, ep⟩
  obtain ⟨⟨G, Y, W, hG, hY⟩, _⟩ := dw (Mi true M0 σ _ D) fun a m => m.elim .inl fun z => .inr (by rw [z]; exact hD)
  rw [show (rgD 0 m.toNat).length = m.toNat by unfold rgD; rw [List.length_map, List.length_range]] at W
  have l1 := cutS_length z none (some k)
  have l2 := cutS_length z (some k) none
  refine lc_it W (fun j H' => ∃ ds rest b', KpM (Mi true M0 σ [some .pool, some (.dat (.int m)), some (.own (cs.map chD)), some (.dat (.str z)), some (.dat (.int k)), none] D) H1 H' ∧ KpM g.own H0 H' ∧ Dom M0 H' ∧ g.inv b' H' ∧ H' p = some (.lst (rest.map chV)) ∧ H' D = some (.lst (ds.map fun c => V.str (nmS z k c))) ∧ ds.length = j ∧ (ds ++ rest).Perm cs ∧ b ≤ b' + j)
    ⟨[], cs, b, .of (smN hD), (R1.mono (smN hD)).kp, (R1.mono (smN hD)).dom, (R1.mono (smN hD)).iv, by rw [upd_ne pD]; exact hp1, upd_same, rfl, .refl _, Nat.le_refl _⟩ (fun j H' hj h => ?_) (fun j x H2 H3 hj h y => ?_) (fun H' h => ?_)
  · obtain ⟨ds, rest, b', a1, _⟩ := h
    exact hG H' a1
  · obtain ⟨ds, rest, b1, a1, a2, a3, a4, a5, a6, a7, a8, a9⟩ := h
    obtain ⟨_, _, s23, _⟩ := hY j x H2 H3 a1 y
    have lr : ds.length + rest.length = cs.length := by rw [← List.length_append]; exact a8.length_eq
    have rpos : 0 < rest.length := by omega
    have i3 : g.inv b1 H3 := Pl.same a4 s23
    have p3 := s23 _ _ a5
    have D3 := s23 _ _ a6
    let σ2 := (wipe σ [5]).set 5 (some x)
    have g2 : ∀ i, i ≠ 5 → σ2[i]? = σ[i]? := fun i hi => (six hi).trans (six hi)
    have ls2 : σ2.length = 6 := by show ((σ.set 5 none).set 5 (some x)).length = 6; rw [List.length_set, List.length_set]; exact lσ
    have IN : ∀ {H' : Hp} {b' : Nat} {cs' : List Nat}, g.inv b' H' → H' p = some (.lst (cs'.map chV)) → cs'.length ≤ 100 → Rn g g.own H' H' σ2 (rhoP m cs' z k) b' := fun iv hp' hc => rn_in iv ls2 ((g2 0 (by decide)).trans e0) ((g2 1 (by decide)).trans e1) ((g2 2 (by decide)).trans ep) ((g2 3 (by decide)).trans e3) ((g2 4 (by decide)).trans e4) hp' gp hz hc
    refine ⟨by show (((σ.set 5 none).set 5 (some x)).set 5 none) = σ.set 5 none; rw [List.set_set, List.set_set], g, g.own, H3, _, b1, IN i3 p3 (by omega), fun H4 k4 i4 => ?_⟩
    have p4 := k4 p _ gp p3
    show (if true = true then _ else _)
    rw [if_pos rfl]
    refine ⟨g, g.own, H4, _, b1, IN i4 p4 (by omega), _, (hf rest).1, fun vA H5 k5 i5 rA => ?_⟩
    cases rA
    have p5 := k5 p _ gp p4
    refine ⟨.ref p, (g2 2 (by decide)).trans ep, .inl ⟨rfl, _, SqL.of p5⟩, g, g.own, H5, _, b1, IN i5 p5 (by omega), (hf rest).2.2 b1 _ rpos (by omega) (by omega) fun v b2 v0 v1 hb2 vs H6 k6 i6 rI => ?_⟩
    have p6 := k6 p _ gp p5
    cases rI with
    | cons r1 rr =>
      cases rr
      cases r1
      obtain ⟨c, hc⟩ : ∃ c, rest[v.toNat]? = some c := ⟨_, List.getElem?_eq_getElem (by omega)⟩
      have lm : (rest.map chV).length = rest.length := List.length_map ..
      refine ⟨p, rest.map chV, v, v.toNat, chV c, rfl, rfl, p6, by omega, by omega, ?_, by rw [List.getElem?_map, hc]; rfl, ?_⟩
      · have ev : (if v < 0 then v + (((rest.map chV).length : Nat) : Int) else v) = v := if_neg (by omega)
        show (if (decide (0 ≤ (if v < 0 then v + (((rest.map chV).length : Nat) : Int) else v)) && decide ((if v < 0 then v + (((rest.map chV).length : Nat) : Int) else v) < (((rest.map chV).length : Nat) : Int))) = true then some (if v < 0 then v + (((rest.map chV).length : Nat) : Int) else v).toNat else none) = some v.toNat
        rw [ev, lm]
        exact if_pos (by simp; omega)
      · have i7 : g.inv b2 (upd H6 p (.lst ((rest.map chV).eraseIdx v.toNat))) := g.loc i6 fun q o => upd_ne fun z => gp (by rw [← z]; exact o)
        have em : (rest.map chV).eraseIdx v.toNat = (rest.eraseIdx v.toNat).map chV := (er_map ..)
        have p7 : (upd H6 p (.lst ((rest.map chV).eraseIdx v.toNat))) p = some (.lst ((rest.eraseIdx v.toNat).map chV)) := by rw [upd_same, em]
        have le := List.length_eraseIdx_le rest v.toNat
        refine rd_add (a := cutS z none (some k)) (b := chS c) rfl rfl (by show _ + 1 ≤ 1000; omega) fun H8 s8 => ?_
        have i8 := Pl.same i7 s8
        have p8 := s8 _ _ p7
        refine ⟨g, g.own, H8, _, b2, IN i8 p8 (by omega), _, (hf _).2.1, fun vB H9 k9 i9 rB => ?_⟩
        cases rB
        refine rd_add (a := cutS z none (some k) ++ chS c) (b := cutS z (some k) none) rfl rfl (by rw [Str.length_append]; show _ + 1 + _ ≤ 1000; omega) fun H10 s10 => ?_
        have p10 := s10 _ _ (k9 p _ gp p8)
        have i10 := Pl.same i9 s10
        have D10 : H10 D = some (.lst (ds.map fun c => V.str (nmS z k c))) := by
          refine s10 _ _ (k9 D _ gD (s8 _ _ ?_))
          rw [upd_ne (Ne.symm pD)]
          exact k6 D _ gD (k5 D _ gD (k4 D _ gD D3))
        refine ⟨_, D10, by rw [List.length_map]; exact Nat.lt_of_le_of_lt (show ds.length ≤ 100 by omega) (by decide), ds ++ [c], rest.eraseIdx v.toNat, b2, ?_, ?_, ?_, ?_, ?_, ?_, ?_, ?_, ?_⟩
        · intro q o n e
          have nq : q ≠ D := fun z => n (.inr z)
          have np : q ≠ p := fun z => n (.inl (by rw [z]; exact mp))
          have ng : ¬ g.own q := fun o => n (.inl (.inl (R.pl q o)))
          rw [upd_ne nq]
          refine s10 _ _ (k9 _ _ ng (s8 _ _ ?_))
          rw [upd_ne np]
          exact k6 _ _ ng (k5 _ _ ng (k4 _ _ ng (s23 _ _ (a1 q o n e))))
        · intro q o ng e
          have nq : q ≠ D := fun z => by
            have := R1.kp q o ng e
            rw [z, hD] at this
            cases this
          have np : q ≠ p := fun z => by rw [z, np0] at e; cases e
          rw [upd_ne nq]
          refine s10 _ _ (k9 _ _ ng (s8 _ _ ?_))
          rw [upd_ne np]
          exact k6 _ _ ng (k5 _ _ ng (k4 _ _ ng (s23 _ _ (a2 q o ng e))))
        · refine dom_put (dom_up ?_ (KpM.of s10) i10)
          refine dom_up (dom_up (dom_put (dom_up (dom_up (dom_up (dom_up a3 (.of s23) i3) k4 i4) k5 i5) k6 i6)) (.of s8) i8) k9 i9
        · exact g.loc i10 fun q o => upd_ne fun z => gD (by rw [← z]; exact o)
        · rw [upd_ne pD]
          exact p10
        · rw [upd_same, List.map_append]
          rfl
        · rw [List.length_append, a7]
          rfl
        · refine .trans ?_ a8
          rw [List.append_assoc]
          refine List.Perm.append_left ds ?_
          exact er_perm hc
        · omega
  · obtain ⟨ds, rest, b', a1, a2, a3, a4, a5, a6, a7, a8, a9⟩ := h
    refine ⟨D, ds.map (nmS z k), rfl, SqL.of (by rw [List.map_map]; exact a6), by rw [List.length_map]; omega, fun ys p' perm srt hp' => ?_⟩
    have yl : ∀ y ∈ ys, y.length ≤ sizeLine := fun y hy => by
      obtain ⟨c, _, rfl⟩ := List.mem_map.mp (perm.mem_iff.mp hy)
      unfold nmS
      rw [Str.length_append, Str.length_append]
      exact sz (by show _ + 1 + _ ≤ 100000; omega)
    have ll : ys.length ≤ sizeLine := sz (by rw [perm.length_eq, List.length_map]; omega)
    refine ⟨M0, [.list (ys.map .str)], .tuple (ys.map .str), dom_put a3, .cons (.lst upd_same (a3.not hp') (by rw [List.length_map]; exact ll) (RpAll.strM yl)) .nil, rfl, fun v H'' s r => ?_⟩
    exact q ds rest ys b' a7 a8 (by omega) perm srt v H'' (fun q o n e => s _ _ (smN hp' _ _ (a2 q o n e))) (Pl.same (Pl.same a4 (smN hp')) s) r
end
end Dl
namespace Dx
open PySem PySem.Spec PyProof.Rows L2 Rt Dl

theorem isi_int (d : D) : isTy "int" d = some (.bool (match d with | .int _ => true | .bool _ => true | _ => false)) := by
  cases d <;> (unfold isTy tyN; first | rw [show kitB "NoneType" "int" = some false by decide +kernel] | rw [show kitB "bool" "int" = some true by decide +kernel] | rw [show kitB "int" "int" = some true by decide +kernel] | rw [show kitB "str" "int" = some false by decide +kernel] | rw [show kitB "list" "int" = some false by decide +kernel] | rw [show kitB "tuple" "int" = some false by decide +kernel] | rw [show kitB "dict" "int" = some false by decide +kernel]) <;> rfl
theorem isi_bool (d : D) : isTy "bool" d = some (.bool (match d with | .bool _ => true | _ => false)) := by
  cases d <;> (unfold isTy tyN; first | rw [show kitB "NoneType" "bool" = some false by decide +kernel] | rw [show kitB "bool" "bool" = some true by decide +kernel] | rw [show kitB "int" "bool" = some false by decide +kernel] | rw [show kitB "str" "bool" = some false by decide +kernel] | rw [show kitB "list" "bool" = some false by decide +kernel] | rw [show kitB "tuple" "bool" = some false by decide +kernel] | rw [show kitB "dict" "bool" = some false by decide +kernel]) <;> rfl
theorem isi_tuple (d : D) : isTy "tuple" d = some (.bool (match d with | .tuple _ => true | _ => false)) := by
  cases d <;> (unfold isTy tyN; first | rw [show kitB "NoneType" "tuple" = some false by decide +kernel] | rw [show kitB "bool" "tuple" = some false by decide +kernel] | rw [show kitB "int" "tuple" = some false by decide +kernel] | rw [show kitB "str" "tuple" = some false by decide +kernel] | rw [show kitB "list" "tuple" = some false by decide +kernel] | rw [show kitB "tuple" "tuple" = some true by decide +kernel] | rw [show kitB "dict" "tuple" = some false by decide +kernel]) <;> rfl
theorem isi_str (d : D) : isTy "str" d = some (.bool (match d with | .str _ => true | _ => false)) := by
  cases d <;> (unfold isTy tyN; first | rw [show kitB "NoneType" "str" = some false by decide +kernel] | rw [show kitB "bool" "str" = some false by decide +kernel] | rw [show kitB "int" "str" = some false by decide +kernel] | rw [show kitB "str" "str" = some true by decide +kernel] | rw [show kitB "list" "str" = some false by decide +kernel] | rw [show kitB "tuple" "str" = some false by decide +kernel] | rw [show kitB "dict" "str" = some false by decide +kernel]) <;> rfl
/-! ### what the values are -/
def isNum : D → Bool
  | .int _ => true
  | _ => false
def isFrom (lo hi : Int) : D → Bool
  | .int i => decide (lo ≤ i) && decide (i ≤ hi)
  | _ => false
def isRow (lo hi : Int) : D → Bool
  | .tuple ds => decide (lo ≤ ds.length) && decide ((ds.length : Int) ≤ hi)
  | _ => false
def sNum : List D → Option D
  | [d] => some (.bool (isNum d))
  | _ => none
def sFrom : List D → Option D
  | [d, .int lo, .int hi] => some (.bool (isFrom lo hi d))
  | _ => none
def sRow : List D → Option D
  | [d, .int lo, .int hi] => some (.bool (isRow lo hi d))
  | _ => none
section
variable {P : Program} {w : World} {K : PySem.W.Frag} {mg : Str → Option Value} {base : Heap}
theorem ok_num {f : Addr} {fd : FuncData} (F : Fun K "is_number" "is_number" s_is_number f fd) (m_isinstance : mg "isinstance" = none) (m_int : mg "int" = none) (m_bool : mg "bool" = none) : FnOk P w K mg base CX0 1 f fd ["thing"] (spD 1 sNum) := by
  refine okFn F sc_is_number rfl fun cdv A outer s H E hr => ⟨_, (dSs_one (dS_ret (ps_ret (dE_and (dE_isi (dE_var (μ := true) (pv 0)) (pe_bltn (v := .ty "int") (by rfl) m_int (by decide +kernel) rfl) (by rfl) m_isinstance (by decide +kernel)) (dE_one (dE_not (dE_isi (dE_var (μ := true) (pv 0)) (pe_bltn (v := .ty "bool") (by rfl) m_bool (by decide +kernel) rfl) (by rfl) m_isinstance (by decide +kernel)))))))), fun ds d l e => ?_⟩
  match ds, e with
  | [x], e =>
    cases e
    refine ⟨.rt (.bool (isNum x)), ?_, rfl⟩
    simp only [startR, sRet, eAnd, eNot, e1, eVar, isi_int, isi_bool]
    cases x <;> rfl
theorem ok_from {f : Addr} {fd : FuncData} (F : Fun K "is_number_from" "is_number_from" s_is_number_from f fd) (C_is_number : Cl P w K mg base 1 "is_number" ["thing"] (spD 1 sNum)) : FnOk P w K mg base CX0 2 f fd ["thing", "low", "high"] (spD 3 sFrom) := by
  refine okFn F sc_is_number_from rfl fun cdv A outer s H E hr => ⟨_, (dSs_one (dS_ret (ps_ret (dE_and (dE_cl C_is_number (hr.mono (by omega)) (by rfl) (dA_cons (dE_var (μ := true) (pv 0)) (dA_nil (μ := true)))) (dE_one (dE_chain o_le o_le (dE_var (μ := true) (pv 1)) (dE_var (μ := true) (pv 0)) (dE_var (μ := true) (pv 2)))))))), fun ds d l e => ?_⟩
  match ds, e with
  | [x, .int lo, .int hi], e =>
    cases e
    refine ⟨.rt (.bool (isFrom lo hi x)), ?_, rfl⟩
    cases x <;> try rfl
    rename_i i
    by_cases h : lo ≤ i <;> simp [startR, sRet, eAnd, eCall, gN, aCons, aNil, sNum, eVar, eChain, isNum, isFrom, leD, bB, h]
theorem ok_row {f : Addr} {fd : FuncData} (F : Fun K "is_row" "is_row" s_is_row f fd) (m_isinstance : mg "isinstance" = none) (m_tuple : mg "tuple" = none) (m_len : mg "len" = none) : FnOk P w K mg base CX0 1 f fd ["thing", "fewest", "most"] (spD 3 sRow) := by
  refine okFn F sc_is_row rfl fun cdv A outer s H E hr => ⟨_, (dSs_one (dS_ret (ps_ret (dE_and (dE_isi (dE_var (μ := true) (pv 0)) (pe_bltn (v := .ty "tuple") (by rfl) m_tuple (by decide +kernel) rfl) (by rfl) m_isinstance (by decide +kernel)) (dE_one (dE_chain o_le o_le (dE_var (μ := true) (pv 1)) (dE_callB c_len (by rfl) m_len (by decide +kernel) (dA_cons (dE_var (μ := true) (pv 0)) (dA_nil (μ := true)))) (dE_var (μ := true) (pv 2)))))))), fun ds d l e => ?_⟩
  match ds, e with
  | [x, .int lo, .int hi], e =>
    cases e
    refine ⟨.rt (.bool (isRow lo hi x)), ?_, rfl⟩
    simp only [startR, sRet, eAnd, e1, eVar, isi_tuple]
    cases x <;> try rfl
    rename_i xs
    by_cases h : lo ≤ xs.length <;> simp [isi_tuple, eChain, eCall, aCons, aNil, lenD, eVar, isRow, leD, bB, h]
end
end Dx
namespace Dl
open PySem PySem.Spec PyProof.Rows L2 Rt
/-! ### texts in order -/
theorem lt_cps : ∀ a b : List Nat, ltCps a b = decide (a < b)
  | [], [] => by simp [ltCps]
  | _ :: _, [] => by simp [ltCps]
  | [], b :: t => by simp [ltCps]
  | a :: r, b :: t => by
    show (decide (a < b) || (a == b && ltCps r t)) = _
    rw [lt_cps r t]
    rw [Bool.eq_iff_iff]
    simp [List.cons_lt_cons_iff]
theorem ls_tri : ∀ a b : List Nat, ¬ b < a → a ≠ b → a < b
  | [], [], _, h => (h rfl).elim
  | [], _ :: _, _, _ => List.nil_lt_cons _ _
  | _ :: _, [], h, _ => (h (List.nil_lt_cons _ _)).elim
  | a :: r, b :: t, h, hn => by
    rw [List.cons_lt_cons_iff] at h ⊢
    rcases Nat.lt_trichotomy a b with q | q | q
    · exact .inl q
    · subst q
      exact .inr ⟨rfl, ls_tri r t (fun w => h (.inr ⟨rfl, w⟩)) fun w => hn (by rw [w])⟩
    · exact (h (.inl q)).elim
theorem ls_tr : ∀ a b c : List Nat, a < b → b < c → a < c
  | a, [], _, h, _ => (List.not_lt_nil _ h).elim
  | a, _ :: _, [], _, h => (List.not_lt_nil _ h).elim
  | [], _ :: _, _ :: _, _, _ => List.nil_lt_cons _ _
  | a :: r, b :: t, c :: u, h1, h2 => by
    rw [List.cons_lt_cons_iff] at h1 h2 ⊢
    rcases h1 with h1 | ⟨rfl, h1⟩
    · rcases h2 with h2 | ⟨rfl, h2⟩
      · exact .inl (Nat.lt_trans h1 h2)
      · exact .inl h1
    · rcases h2 with h2 | ⟨rfl, h2⟩
      · exact .inl h2
      · exact .inr ⟨rfl, ls_tr r t u h1 h2⟩
def StrLt (a b : Str) : Prop := a.cps.toList < b.cps.toList
theorem rs_pw : ∀ (r : List Str) (p : Str), risingS p r = true → (p :: r).Nodup → (p :: r).Pairwise StrLt
  | [], p, _, _ => List.pairwise_singleton ..
  | x :: r, p, h, hn => by
    have h := Bool.and_eq_true_iff.mp (show (!ltCps x.cps.toList p.cps.toList && risingS x r) = true from h)
    have h1 : ¬ x.cps.toList < p.cps.toList := by
      have := h.1
      rw [lt_cps] at this
      simpa using this
    have nd := List.nodup_cons.mp hn
    have ne : p.cps.toList ≠ x.cps.toList := fun e => nd.1 (by rw [show p = x from Str.ext' (Array.toList_inj.mp e)]; exact List.mem_cons_self ..)
    have px := ls_tri _ _ h1 ne
    have ih := rs_pw r x h.2 nd.2
    refine List.pairwise_cons.mpr ⟨fun y hy => ?_, ih⟩
    rcases List.mem_cons.mp hy with rfl | hy
    · exact px
    · exact ls_tr _ _ _ px ((List.pairwise_cons.mp ih).1 y hy)
theorem srt_pw : ∀ {ys : List Str}, sortedS ys = true → ys.Nodup → ys.Pairwise StrLt
  | [], _, _ => .nil
  | x :: r, h, hn => rs_pw r x h hn
theorem let_nd : LET.Nodup := by decide +kernel
theorem let_lt : ∀ c ∈ LET, c < 1114112 := by decide +kernel
theorem let_len : LET.length = 26 := by decide +kernel
theorem tl_cut_to (z : Str) {j : Nat} (h : j ≤ z.length) : (cutS z none (some (j : Int))).cps.toList = z.cps.toList.take j := by
  unfold cutS
  have hz : z.cps.toList.length = z.length := Array.length_toList
  simp only [HT.sIx_none, HT.sIx_nat, Nat.min_eq_left h, List.drop_zero, Nat.sub_zero]
theorem tl_cut_fr (z : Str) {j : Nat} (h : j ≤ z.length) : (cutS z (some (j : Int)) none).cps.toList = z.cps.toList.drop j := by
  unfold cutS
  have hz : z.cps.toList.length = z.length := Array.length_toList
  simp only [HT.sIx_none, HT.sIx_nat, Nat.min_eq_left h]
  exact List.take_of_length_le (by rw [List.length_drop]; omega)
theorem tl_nm (z : Str) {j : Nat} (h : j ≤ z.length) (c : Nat) : (nmS z (j : Int) c).cps.toList = z.cps.toList.take j ++ [c] ++ z.cps.toList.drop j := by
  unfold nmS
  rw [s_app, s_app, tl_cut_to z h, tl_cut_fr z h]
  rfl
theorem nm_good {z : Str} {j : Nat} {c : Nat} (h : j ≤ z.length) (h7 : z.length ≤ 7) (hz : ∀ d ∈ z.cps.toList, d ∈ LET) (hc : c ∈ LET) : NmG (nmS z (j : Int) c) := by
  have e := tl_nm z h c
  have ln : (nmS z (j : Int) c).length = z.length + 1 := by
    rw [s_len, e, List.length_append, List.length_append, List.length_take, List.length_drop]
    have hz : z.cps.toList.length = z.length := Array.length_toList
    rw [hz]
    show min j z.length + 1 + _ = _
    omega
  refine ⟨by omega, by omega, fun d hd => ?_⟩
  rw [e] at hd
  rcases List.mem_append.mp hd with hd | hd
  · rcases List.mem_append.mp hd with hd | hd
    · exact hz d (List.mem_of_mem_take hd)
    · rw [List.mem_singleton.mp hd]; exact hc
  · exact hz d (List.mem_of_mem_drop hd)
theorem nm_inj {z : Str} {j : Nat} {c d : Nat} (h : j ≤ z.length) (e : nmS z (j : Int) c = nmS z (j : Int) d) : c = d := by
  have e1 := congrArg (fun s : Str => s.cps.toList) e
  have e1 : (nmS z (j : Int) c).cps.toList = (nmS z (j : Int) d).cps.toList := e1
  rw [tl_nm z h, tl_nm z h] at e1
  have e2 := List.append_inj_left' e1 rfl
  have e3 := List.append_inj_right' e2 rfl
  exact List.singleton_inj.mp e3
theorem ok_of_let {z : Str} (h : ∀ c ∈ z.cps.toList, c ∈ LET) : PyData.strOk z = true := strOk_iff.mpr fun c hc => let_lt c (h c hc)
/-! ### what is drawn -/
structure NmS (zs : List Str) : Prop where
  l1 : 1 ≤ zs.length
  l4 : zs.length ≤ 4
  g : ∀ z ∈ zs, NmG z
  r : zs.Pairwise fun a b => a.cps.toList < b.cps.toList
def gNames : GF := gAny 14 (fun ds => ∃ m : Int, ds = [.int m] ∧ 1 ≤ m ∧ m ≤ 4) (fun _ d => ∃ zs : List Str, d = .tuple (zs.map .str) ∧ NmS zs)
def gSource : GF := gAny 9 (fun ds => ∃ (n : Int) (zs : List Str) (s : Int), ds = [.int n, .tuple (zs.map .str), .int s] ∧ NmS zs ∧ 1 ≤ n ∧ n ≤ 6 ∧ 1 ≤ s ∧ s ≤ 1000001) (fun ds d => ∃ (n : Int) (zs : List Str) (s : Int) (x : Sr), ds = [.int n, .tuple (zs.map .str), .int s] ∧ d = x.d ∧ x.ok n zs)
def gPart : GF := gAny 8 (fun ds => ∃ zs : List Str, ds = [.tuple (zs.map .str)] ∧ NmS zs) (fun ds d => ∃ (zs : List Str) (x : Pt), ds = [.tuple (zs.map .str)] ∧ d = x.d ∧ x.ok zs)
def gWay : GF := gAny 40 (fun ds => ∃ (n : Int) (zs : List Str), ds = [.int n, .tuple (zs.map .str)] ∧ NmS zs ∧ 1 ≤ n ∧ n ≤ 6) (fun ds d => ∃ (n : Int) (zs : List Str) (x : Wy), ds = [.int n, .tuple (zs.map .str)] ∧ d = x.d ∧ x.ok n zs)
def gWorld : GF := gAny 400 (fun ds => ∃ s : Int, ds = [.int s] ∧ 1 ≤ s ∧ s ≤ 1000001) (fun _ d => ∃ X : Wd, d = X.d ∧ X.ok)
def LETS : Str := Str.ofString "abcdefghijklmnopqrstuvwxyz"
theorem lets_list : LETS.cps.toList = LET := rfl
section
variable {P : Program} {w : World} {K : PySem.W.Frag} {mg : Str → Option Value} {base : Heap}
theorem ok_names {f : Addr} {fd : FuncData} (F : Fun K "_law_names" "_law_names" s_law_names f fd) (m_range : mg "range" = none) (m_len : mg "len" = none) (m_sorted : mg "sorted" = none) (m_tuple : mg "tuple" = none) (m_list : mg "list" = none) (C__law_next : Cl P w K mg base 1 "_law_next" ["_law_drawn", "_law_many"] (spN 1 gNext)) : FnOk P w K mg base CX0 2 f fd ["_law_drawn", "_law_many"] (spN 1 gNames) := by
  refine okFnN F sc_law_names rfl fun cdv A outer s H E hr => ⟨_, (nSs_cons (nS_own (ps_set (i := 2) sc_law_names.nd rfl (.inr rfl) (nN_pure (oE_listS rfl (by rfl) m_list (by decide +kernel) (dE_c (μ := true) pe_str)))))
  (nSs_cons (nS_asg (K := K) (p := .nm 3) (ps_set (i := 3) sc_law_names.nd rfl (.inr rfl) (nE_lend (i := 2) (nE_join pe_str (nE_lc (K := K) (p := (.nm 5)) (pe_lc (own := [("_law_k", 5)]) (g := gP K (.nm 5)) rfl sc_law_names.nd (nI_ran1 (by rfl) m_range (nA_cons (nE_draw C__law_next (hr.mono (by omega)) (by rfl) (pv 0) (nA_cons (nE_pure (dE_c (μ := true) pe_int)) nA_nil)) nA_nil)) (blkOk_by (own := [("_law_k", 5)]) (N := ["_law_drawn", "_law_many", "_law_left", "_law_stem", "_law_at", "_law_k"]) (sc := defScope s_law_names) (by decide +kernel)) (fun _ _ _ _ _ => (pg_name (i := 5) sc_law_names.nd rfl (.inl rfl))) (fun _ _ _ _ _ => nTs_nil) (fun _ _ _ _ _ => (nE_ix (nE_pure (dE_var (μ := true) (pv 2))) (nE_draw C__law_next (hr.mono (by omega)) (by rfl) (pv 0) (nA_cons (nE_pure (dE_c (μ := true) pe_int)) nA_nil))))))))))
  (nSs_cons (nS_asg (K := K) (p := .nm 4) (ps_set (i := 4) sc_law_names.nd rfl (.inr rfl) (nE_draw C__law_next (hr.mono (by omega)) (by rfl) (pv 0) (nA_cons (nE_pure (dE_op o_add (dE_callB c_len (by rfl) m_len (by decide +kernel) (dA_cons (dE_var (μ := true) (pv 3)) (dA_nil (μ := true)))) (dE_c (μ := true) pe_int))) nA_nil))))
  (nSs_one (nS_nm rfl (ps_ret (pe_callTy c_tuple (by rfl) m_tuple (by decide +kernel) (pa_cons (pe_callB cr_sortedS (by rfl) m_sorted (by decide +kernel) (pa_cons (pe_lc (own := [("_law_k", 5)]) (g := gP K (.nm 5)) rfl sc_law_names.nd (nI_pure (dI_ran1 (by rfl) m_range (dA_cons (dE_var (μ := true) (pv 1)) (dA_nil (μ := true))))) (blkOk_by (own := [("_law_k", 5)]) (N := ["_law_drawn", "_law_many", "_law_left", "_law_stem", "_law_at", "_law_k"]) (sc := defScope s_law_names) (by decide +kernel)) (fun _ _ _ _ _ => (pg_name (i := 5) sc_law_names.nd rfl (.inl rfl))) (fun _ _ _ _ _ => nTs_nil) (fun _ _ _ _ _ => (pe_op o_addX (pe_op o_addX (nE_pure (dE_slX (dE_var (μ := true) (pv 3)) dO_none (dO_some (dE_var (μ := true) (pv 4))))) (pe_bm PySem.F.plainAttrs_list PySem.F.slot_list_pop PySem.F.type_list_pop mt_popAt (pv 2) (nA_cons (nE_draw C__law_next (hr.mono (by omega)) (by rfl) (pv 0) (nA_cons (nE_pure (dE_callB c_len (by rfl) m_len (by decide +kernel) (dA_cons (dE_var (μ := true) (pv 2)) (dA_nil (μ := true))))) nA_nil)) nA_nil))) (nE_pure (dE_slX (dE_var (μ := true) (pv 3)) (dO_some (dE_var (μ := true) (pv 4))) dO_none))))) pa_nil)) pa_nil)))))))), fun ds b Q l h => ?_⟩
  obtain ⟨⟨m, rfl, m1, m4⟩, hb, q⟩ := h
  let R : Option LV → Option LV → Rho := fun x y => [some .pool, some (.dat (.int m)), some (.own (LET.map chD)), x, y, none]
  refine ⟨.list (LET.map chD), rfl, LET.map chD, rfl, by show 2 < 6; decide, ?_⟩
  refine ⟨LET.map chD, rfl, wNext (m := 8) rfl rfl (by decide) (by decide) (by omega) fun v b1 v0 v1 h1 => ⟨[.int v], rfl, rgD 0 v.toNat, ran1_ok (by omega) (by omega), ?_⟩⟩
  have lv : (rgD 0 v.toNat).length = v.toNat := rgD_len _ _
  refine lcN_all 1 (fun d => ∃ c : Nat, d = chD c ∧ c ∈ LET) (rgD 0 v.toNat) b1 _ (by rw [lv]; omega) (fun x hx b Q hb q => ?_) (fun r b2 lr hr h2 => ?_)
  · obtain ⟨i, _, rfl⟩ := List.mem_map.mp hx
    refine ⟨_, rfl, .list (LET.map chD), rfl, wNext (m := 26) rfl rfl (by decide) (by decide) hb fun u n' u0 u1 hn => ?_⟩
    obtain ⟨c, hc, cm, _⟩ := atI_in (xs := LET.map chD) u0 (by rw [List.length_map, let_len]; exact u1)
    obtain ⟨c, cm2, rfl⟩ := List.mem_map.mp cm
    exact ⟨chD c, hc, q _ n' ⟨c, rfl, cm2⟩ hn⟩
  obtain ⟨cs, rfl, hcs⟩ := cho (f := chD) hr
  rw [lv] at lr h2
  rw [List.length_map] at lr
  obtain ⟨z, hz⟩ : ∃ z : Str, z = ⟨cs.toArray⟩ := ⟨_, rfl⟩
  have zl : z.length = cs.length := by rw [hz]; show cs.toArray.size = _; rw [List.size_toArray]
  have zc : z.cps.toList = cs := by rw [hz]
  refine ⟨.str z, ?_, ⟨z, rfl⟩, R (some (.dat (.str z))) none, rfl, ?_⟩
  · show (chrsD (cs.map fun c => PyData.str ⟨#[c]⟩)).bind _ = _
    rw [chrsD.map, hz]
    exact if_pos (by omega)
  refine wNext (m := (z.length : Int) + 1) rfl rfl (by omega) (by omega) (by omega) fun at' b3 a0 a1 h3 => ⟨R (some (.dat (.str z))) (some (.dat (.int at'))), rfl, ?_⟩
  obtain ⟨j, rfl⟩ : ∃ j : Nat, at' = j := ⟨at'.toNat, by omega⟩
  refine ⟨m, LET, z, j, rfl, by omega, by omega, by rw [let_len]; omega, by omega, by rw [let_len]; decide, by omega, fun cs' => ⟨rfl, rfl, fun b Q p1 p2 hb q => ?_⟩, fun dd rest ys b4 ld perm h4 py srt => ?_⟩
  · refine wNext (m := ((cs'.map chD).length : Nat)) rfl rfl (by rw [List.length_map]; omega) (by rw [List.length_map]; omega) hb fun v n' v0 v1 hn => ⟨_, rfl, q v n' v0 (by rw [List.length_map] at v1; exact v1) hn⟩
  have nd : (dd ++ rest).Nodup := perm.nodup_iff.mpr let_nd
  have ddn : dd.Nodup := (List.nodup_append.mp nd).1
  have jz : j ≤ z.length := by omega
  have hzl : ∀ d ∈ z.cps.toList, d ∈ LET := fun d hd => hcs d (by rw [zc] at hd; exact hd)
  have ndY : ys.Nodup := py.nodup_iff.mpr (List.Pairwise.map (nmS z j) (fun a b (h : a ≠ b) e => h (nm_inj jz e)) ddn)
  have ly : ys.length = m.toNat := by rw [py.length_eq, List.length_map, ld]
  refine q _ b4 ⟨ys, rfl, by omega, by omega, fun y hy => ?_, srt_pw srt ndY⟩ (by omega)
  obtain ⟨c, hc, rfl⟩ := List.mem_map.mp (py.mem_iff.mp hy)
  exact nm_good jz (by omega) hzl (perm.mem_iff.mp (List.mem_append_left _ hc))
end
end Dl
namespace Dl
open PySem PySem.Spec PyProof.Rows L2 Rt
section
variable {P : Program} {w : World} {K : PySem.W.Frag} {mg : Str → Option Value} {base : Heap}
theorem ok_source {f : Addr} {fd : FuncData} (F : Fun K "_law_source" "_law_source" s_law_source f fd) (m_len : mg "len" = none) (C__law_next : Cl P w K mg base 1 "_law_next" ["_law_drawn", "_law_many"] (spN 1 gNext)) : FnOk P w K mg base CX0 2 f fd ["_law_drawn", "_law_size", "_law_kinds", "_law_late"] (spN 3 gSource) := by
  refine okFnN F sc_law_source rfl fun cdv A outer s H E hr => ⟨_, (nSs_cons (nS_asg (K := K) (p := .nm 4) (ps_set (i := 4) sc_law_source.nd rfl (.inl rfl) (nE_ix (nE_lst (nA_cons (nE_pure (dE_c (μ := true) pe_int)) (nA_cons (nE_draw C__law_next (hr.mono (by omega)) (by rfl) (pv 0) (nA_cons (nE_pure (dE_c (μ := true) pe_int)) nA_nil)) (nA_cons (nE_draw C__law_next (hr.mono (by omega)) (by rfl) (pv 0) (nA_cons (nE_pure (dE_c (μ := true) pe_int)) nA_nil)) nA_nil)))) (nE_draw C__law_next (hr.mono (by omega)) (by rfl) (pv 0) (nA_cons (nE_pure (dE_c (μ := true) pe_int)) nA_nil)))))
  (nSs_cons (nS_asg (K := K) (p := .nm 5) (ps_set (i := 5) sc_law_source.nd rfl (.inl rfl) (nE_ix (nE_lst (nA_cons (nE_pure (dE_c (μ := true) pe_int)) (nA_cons (nE_draw C__law_next (hr.mono (by omega)) (by rfl) (pv 0) (nA_cons (nE_pure (dE_c (μ := true) pe_int)) nA_nil)) (nA_cons (nE_draw C__law_next (hr.mono (by omega)) (by rfl) (pv 0) (nA_cons (nE_pure (dE_var (μ := true) (pv 3))) nA_nil)) nA_nil)))) (nE_draw C__law_next (hr.mono (by omega)) (by rfl) (pv 0) (nA_cons (nE_pure (dE_c (μ := true) pe_int)) nA_nil)))))
  (nSs_one (nS_ret (ps_ret (nE_tup (nA_cons (nE_ix (nE_pure (dE_var (μ := true) (pv 2))) (nE_draw C__law_next (hr.mono (by omega)) (by rfl) (pv 0) (nA_cons (nE_pure (dE_callB c_len (by rfl) m_len (by decide +kernel) (dA_cons (dE_var (μ := true) (pv 2)) (dA_nil (μ := true))))) nA_nil))) (nA_cons (nE_pure (dE_var (μ := true) (pv 4))) (nA_cons (nE_draw C__law_next (hr.mono (by omega)) (by rfl) (pv 0) (nA_cons (nE_pure (dE_var (μ := true) (pv 1))) nA_nil)) (nA_cons (nE_pure (dE_var (μ := true) (pv 5))) (nA_cons (nE_op o_add (nE_pure (dE_c (μ := true) pe_int)) (nE_draw C__law_next (hr.mono (by omega)) (by rfl) (pv 0) (nA_cons (nE_pure (dE_c (μ := true) pe_int)) nA_nil))) nA_nil))))))))))), fun ds b Q l h => ?_⟩
  obtain ⟨⟨n, zs, sn, rfl, ⟨k1, k4, hz, hr⟩, n1, n6, s0, s1⟩, hb, q⟩ := h
  have kl : (zs.map PyData.str).length = zs.length := List.length_map ..
  refine ⟨.int 0, rfl, wNext (m := 5) rfl rfl (by decide) (by decide) (by omega) fun v1 b1 v10 v11 h1 => wNext (m := 21) rfl rfl (by decide) (by decide) (by omega) fun v2 b2 v20 v21 h2 => ⟨_, rfl, _, rfl, _, rfl, _, rfl, wNext (m := 3) rfl rfl (by decide) (by decide) (by omega) fun v3 b3 v30 v31 h3 => ?_⟩⟩
  obtain ⟨x, ex, xs⟩ := lst3 (a := PyData.int 0) (b := .int v1) (c := .int v2) v30 v31
  obtain ⟨ag, rfl, a0, a1⟩ : ∃ a : Int, x = .int a ∧ 0 ≤ a ∧ a ≤ 20 := by
    rcases xs with rfl | rfl | rfl
    · exact ⟨_, rfl, by decide, by decide⟩
    · exact ⟨_, rfl, by omega, by omega⟩
    · exact ⟨_, rfl, by omega, by omega⟩
  let R : Option LV → Option LV → Rho := fun x y => [some .pool, some (.dat (.int n)), some (.dat (.tuple (zs.map .str))), some (.dat (.int sn)), x, y]
  refine ⟨_, ex, R (some (.dat (.int ag))) none, rfl, ?_⟩
  refine ⟨.int 0, rfl, wNext (m := 9) rfl rfl (by decide) (by decide) (by omega) fun v4 b4 v40 v41 h4 => wNext (m := sn) rfl rfl (by omega) (by omega) (by omega) fun v5 b5 v50 v51 h5 => ⟨_, rfl, _, rfl, _, rfl, _, rfl, wNext (m := 3) rfl rfl (by decide) (by decide) (by omega) fun v6 b6 v60 v61 h6 => ?_⟩⟩
  obtain ⟨y, ey, ys⟩ := lst3 (a := PyData.int 0) (b := .int v4) (c := .int v5) v60 v61
  obtain ⟨bg, rfl, g0, g1⟩ : ∃ a : Int, y = .int a ∧ 0 ≤ a ∧ a ≤ 1000000 := by
    rcases ys with rfl | rfl | rfl
    · exact ⟨_, rfl, by decide, by decide⟩
    · exact ⟨_, rfl, by omega, by omega⟩
    · exact ⟨_, rfl, by omega, by omega⟩
  refine ⟨_, ey, R (some (.dat (.int ag))) (some (.dat (.int bg))), rfl, ?_⟩
  refine ⟨.tuple (zs.map .str), rfl, wNext (m := (zs.map PyData.str).length) rfl rfl (by omega) (by omega) (by omega) fun v7 b7 v70 v71 h7 => ?_⟩
  obtain ⟨j, rfl⟩ : ∃ j : Nat, v7 = j := ⟨v7.toNat, by omega⟩
  obtain ⟨z, hzj⟩ : ∃ z, zs[j]? = some z := ⟨_, List.getElem?_eq_getElem (by omega)⟩
  refine ⟨.str z, at_map hzj, .int ag, rfl, wNext (m := n) rfl rfl (by omega) (by omega) (by omega) fun v8 b8 v80 v81 h8 => ⟨.int bg, rfl, .int 1, rfl, wNext (m := 9) rfl rfl (by decide) (by decide) (by omega) fun v9 b9 v90 v91 h9 => ⟨_, rfl, _, rfl, _, rfl, _, rfl, _, rfl, _, rfl, _, rfl, ?_⟩⟩⟩
  exact q _ b9 ⟨n, zs, sn, ⟨z, ag, v8, bg, 1 + v9⟩, rfl, rfl, ⟨List.mem_of_getElem? hzj, a0, a1, v80, v81, g0, g1, by show 1 ≤ 1 + v9; omega, by show 1 + v9 ≤ 9; omega⟩⟩ (by omega)
theorem ok_part {f : Addr} {fd : FuncData} (F : Fun K "_law_part" "_law_part" s_law_part f fd) (m_min : mg "min" = none) (m_len : mg "len" = none) (C__law_next : Cl P w K mg base 1 "_law_next" ["_law_drawn", "_law_many"] (spN 1 gNext)) : FnOk P w K mg base CX0 2 f fd ["_law_drawn", "_law_kinds"] (spN 1 gPart) := by
  refine okFnN F sc_law_part rfl fun cdv A outer s H E hr => ⟨_, (nSs_cons (nS_asg (K := K) (p := .nm 2) (ps_set (i := 2) sc_law_part.nd rfl (.inl rfl) (nE_ix (nE_lst (nA_cons (nE_pure (dE_c (μ := true) pe_int)) (nA_cons (nE_draw C__law_next (hr.mono (by omega)) (by rfl) (pv 0) (nA_cons (nE_pure (dE_c (μ := true) pe_int)) nA_nil)) (nA_cons (nE_draw C__law_next (hr.mono (by omega)) (by rfl) (pv 0) (nA_cons (nE_pure (dE_c (μ := true) pe_int)) nA_nil)) (nA_cons (nE_draw C__law_next (hr.mono (by omega)) (by rfl) (pv 0) (nA_cons (nE_pure (dE_c (μ := true) pe_int)) nA_nil)) nA_nil))))) (nE_draw C__law_next (hr.mono (by omega)) (by rfl) (pv 0) (nA_cons (nE_pure (dE_c (μ := true) pe_int)) nA_nil)))))
  (nSs_cons (nS_asg (K := K) (p := .nm 3) (ps_set (i := 3) sc_law_part.nd rfl (.inl rfl) (nE_ix (nE_lst (nA_cons (nE_draw C__law_next (hr.mono (by omega)) (by rfl) (pv 0) (nA_cons (nE_pure (dE_c (μ := true) pe_int)) nA_nil)) (nA_cons (nE_draw C__law_next (hr.mono (by omega)) (by rfl) (pv 0) (nA_cons (nE_pure (dE_c (μ := true) pe_int)) nA_nil)) (nA_cons (nE_pure (dE_c (μ := true) pe_int)) nA_nil)))) (nE_draw C__law_next (hr.mono (by omega)) (by rfl) (pv 0) (nA_cons (nE_pure (dE_c (μ := true) pe_int)) nA_nil)))))
  (nSs_one (nS_ret (ps_ret (nE_tup (nA_cons (nE_ix (nE_pure (dE_var (μ := true) (pv 1))) (nE_draw C__law_next (hr.mono (by omega)) (by rfl) (pv 0) (nA_cons (nE_pure (dE_callB c_len (by rfl) m_len (by decide +kernel) (dA_cons (dE_var (μ := true) (pv 1)) (dA_nil (μ := true))))) nA_nil))) (nA_cons (nE_pure (dE_var (μ := true) (pv 2))) (nA_cons (nE_pure (dE_callB (c_min2 rfl) (by rfl) m_min (by decide +kernel) (dA_cons (dE_c (μ := true) pe_int) (dA_cons (dE_op o_add (dE_var (μ := true) (pv 2)) (dE_var (μ := true) (pv 3))) (dA_nil (μ := true)))))) nA_nil))))))))), fun ds b Q l h => ?_⟩
  obtain ⟨⟨zs, rfl, k1, k4, hz, hr⟩, hb, q⟩ := h
  have kl : (zs.map PyData.str).length = zs.length := List.length_map ..
  refine ⟨.int 0, rfl, wNext (m := 4) rfl rfl (by decide) (by decide) (by omega) fun v1 b1 v10 v11 h1 => wNext (m := 12) rfl rfl (by decide) (by decide) (by omega) fun v2 b2 v20 v21 h2 => wNext (m := 21) rfl rfl (by decide) (by decide) (by omega) fun v0 b0 v00 v01 h0 => ⟨_, rfl, _, rfl, _, rfl, _, rfl, _, rfl, wNext (m := 4) rfl rfl (by decide) (by decide) (by omega) fun v3 b3 v30 v31 h3 => ?_⟩⟩
  obtain ⟨x, ex, xs⟩ := lst4 (a := PyData.int 0) (b := .int v1) (c := .int v2) (d := .int v0) v30 v31
  obtain ⟨lo, rfl, a0, a1⟩ : ∃ a : Int, x = .int a ∧ 0 ≤ a ∧ a ≤ 20 := by
    rcases xs with rfl | rfl | rfl | rfl
    · exact ⟨_, rfl, by decide, by decide⟩
    · exact ⟨_, rfl, by omega, by omega⟩
    · exact ⟨_, rfl, by omega, by omega⟩
    · exact ⟨_, rfl, by omega, by omega⟩
  let R : Option LV → Option LV → Rho := fun x y => [some .pool, some (.dat (.tuple (zs.map .str))), x, y]
  refine ⟨_, ex, R (some (.dat (.int lo))) none, rfl, ?_⟩
  refine wNext (m := 3) rfl rfl (by decide) (by decide) (by omega) fun v4 b4 v40 v41 h4 => wNext (m := 9) rfl rfl (by decide) (by decide) (by omega) fun v5 b5 v50 v51 h5 => ⟨.int 20, rfl, _, rfl, _, rfl, _, rfl, _, rfl, wNext (m := 3) rfl rfl (by decide) (by decide) (by omega) fun v6 b6 v60 v61 h6 => ?_⟩
  obtain ⟨y, ey, ys⟩ := lst3 (a := PyData.int v4) (b := .int v5) (c := .int 20) v60 v61
  obtain ⟨mo, rfl, g0⟩ : ∃ a : Int, y = .int a ∧ 0 ≤ a := by
    rcases ys with rfl | rfl | rfl
    · exact ⟨_, rfl, v40⟩
    · exact ⟨_, rfl, v50⟩
    · exact ⟨_, rfl, by decide⟩
  refine ⟨_, ey, R (some (.dat (.int lo))) (some (.dat (.int mo))), rfl, ?_⟩
  let hi : Int := if lo + mo < 20 then lo + mo else 20
  refine ⟨.tuple (zs.map .str), rfl, wNext (m := (zs.map PyData.str).length) rfl rfl (by omega) (by omega) (by omega) fun v7 b7 v70 v71 h7 => ?_⟩
  obtain ⟨j, rfl⟩ : ∃ j : Nat, v7 = j := ⟨v7.toNat, by omega⟩
  obtain ⟨z, hzj⟩ : ∃ z, zs[j]? = some z := ⟨_, List.getElem?_eq_getElem (by omega)⟩
  refine ⟨.str z, at_map hzj, .int lo, rfl, .int hi, rfl, _, rfl, _, rfl, _, rfl, _, rfl, ?_⟩
  have hb1 : lo ≤ hi ∧ hi ≤ 20 := by
    show lo ≤ (if lo + mo < 20 then lo + mo else 20) ∧ (if lo + mo < 20 then lo + mo else 20) ≤ 20
    split <;> omega
  exact q _ b7 ⟨zs, ⟨z, lo, hi⟩, rfl, rfl, ⟨List.mem_of_getElem? hzj, a0, hb1.1, hb1.2⟩⟩ (by omega)
theorem ok_way {f : Addr} {fd : FuncData} (F : Fun K "_law_way" "_law_way" s_law_way f fd) (m_range : mg "range" = none) (m_tuple : mg "tuple" = none) (m_len : mg "len" = none) (C__law_next : Cl P w K mg base 1 "_law_next" ["_law_drawn", "_law_many"] (spN 1 gNext)) (C__law_part : Cl P w K mg base 2 "_law_part" ["_law_drawn", "_law_kinds"] (spN 1 gPart)) : FnOk P w K mg base CX0 3 f fd ["_law_drawn", "_law_size", "_law_kinds"] (spN 2 gWay) := by
  refine okFnN F sc_law_way rfl fun cdv A outer s H E hr => ⟨_, (nSs_cons (nS_asg (K := K) (p := .nm 3) (ps_set (i := 3) sc_law_way.nd rfl (.inl rfl) (nE_callTy c_tuple (by rfl) m_tuple (by decide +kernel) (nA_cons (nE_lc (K := K) (p := (.nm 6)) (pe_lc (own := [("_law_k", 6)]) (g := gP K (.nm 6)) rfl sc_law_way.nd (nI_ran1 (by rfl) m_range (nA_cons (nE_op o_add (nE_pure (dE_c (μ := true) pe_int)) (nE_draw C__law_next (hr.mono (by omega)) (by rfl) (pv 0) (nA_cons (nE_pure (dE_c (μ := true) pe_int)) nA_nil))) nA_nil)) (blkOk_by (own := [("_law_k", 6)]) (N := ["_law_drawn", "_law_size", "_law_kinds", "_law_parts", "_law_hours", "_law_keeps", "_law_k", "_law_place"]) (sc := defScope s_law_way) (by decide +kernel)) (fun _ _ _ _ _ => (pg_name (i := 6) sc_law_way.nd rfl (.inl rfl))) (fun _ _ _ _ _ => nTs_nil) (fun _ _ _ _ _ => (nE_draw C__law_part (hr.mono (by omega)) (by rfl) (pv 0) (nA_cons (nE_pure (dE_var (μ := true) (pv 2))) nA_nil))))) nA_nil))))
  (nSs_cons (nS_asg (K := K) (p := .nm 4) (ps_set (i := 4) sc_law_way.nd rfl (.inl rfl) (nE_callTy c_tuple (by rfl) m_tuple (by decide +kernel) (nA_cons (nE_lc (K := K) (p := (.nm 7)) (pe_lc (own := [("_law_place", 7)]) (g := gP K (.nm 7)) rfl sc_law_way.nd (nI_pure (dI_ran1 (by rfl) m_range (dA_cons (dE_var (μ := true) (pv 1)) (dA_nil (μ := true))))) (blkOk_by (own := [("_law_place", 7)]) (N := ["_law_drawn", "_law_size", "_law_kinds", "_law_parts", "_law_hours", "_law_keeps", "_law_k", "_law_place"]) (sc := defScope s_law_way) (by decide +kernel)) (fun _ _ _ _ _ => (pg_name (i := 7) sc_law_way.nd rfl (.inl rfl))) (fun _ _ _ _ _ => (pts_one (nT_cmp o_gt (nE_draw C__law_next (hr.mono (by omega)) (by rfl) (pv 0) (nA_cons (nE_pure (dE_c (μ := true) pe_int)) nA_nil)) (nE_pure (dE_c (μ := true) pe_int)) (nomark _)))) (fun _ _ _ _ _ => (nE_pure (dE_var (μ := true) (pv 7)))))) nA_nil))))
  (nSs_cons (nS_asg (K := K) (p := .nm 5) (ps_set (i := 5) sc_law_way.nd rfl (.inl rfl) (nE_ix (nE_pure (dE_lst (dA_cons (dE_c (μ := true) pe_str) (dA_cons (dE_c (μ := true) pe_str) (dA_nil (μ := true)))))) (nE_draw C__law_next (hr.mono (by omega)) (by rfl) (pv 0) (nA_cons (nE_pure (dE_c (μ := true) pe_int)) nA_nil)))))
  (nSs_one (nS_ret (ps_ret (nE_tup (nA_cons (nE_ix (nE_pure (dE_var (μ := true) (pv 2))) (nE_draw C__law_next (hr.mono (by omega)) (by rfl) (pv 0) (nA_cons (nE_pure (dE_callB c_len (by rfl) m_len (by decide +kernel) (dA_cons (dE_var (μ := true) (pv 2)) (dA_nil (μ := true))))) nA_nil))) (nA_cons (nE_pure (dE_var (μ := true) (pv 3))) (nA_cons (nE_pure (dE_var (μ := true) (pv 5))) (nA_cons (nE_pure (dE_var (μ := true) (pv 4))) (nA_cons (nE_op o_add (nE_pure (dE_c (μ := true) pe_int)) (nE_draw C__law_next (hr.mono (by omega)) (by rfl) (pv 0) (nA_cons (nE_pure (dE_c (μ := true) pe_int)) nA_nil))) nA_nil)))))))))))), fun ds b Q l h => ?_⟩
  obtain ⟨⟨n, zs, rfl, hZ, n1, n6⟩, hb, q⟩ := h
  have hZ' := hZ
  obtain ⟨k1, k4, hz, hr⟩ := hZ'
  have kl : (zs.map PyData.str).length = zs.length := List.length_map ..
  refine ⟨.int 1, rfl, wNext (m := 3) rfl rfl (by decide) (by decide) (by omega) fun v1 b1 v10 v11 h1 => ?_⟩
  obtain ⟨m, hm⟩ : ∃ m : Int, m = 1 + v1 := ⟨_, rfl⟩
  refine ⟨.int m, by rw [hm]; rfl, _, rfl, rgD 0 m.toNat, ran1_ok (by omega) (by omega), ?_⟩
  have lm : (rgD 0 m.toNat).length = m.toNat := rgD_len _ _
  refine lcN_all 8 (fun d => ∃ p : Pt, d = p.d ∧ p.ok zs) (rgD 0 m.toNat) b1 _ (by rw [lm]; omega) (fun x hx b Q hb q => ?_) (fun ps b2 lp hp h2 => ?_)
  · obtain ⟨i, _, rfl⟩ := List.mem_map.mp hx
    refine ⟨_, rfl, rfl, .tuple (zs.map .str), rfl, _, rfl, rfl, ⟨zs, rfl, hZ⟩, hb, fun d n' ⟨zs', x, e, ed, ok⟩ hn => ?_⟩
    injection e with e _
    cases tup_inj str_i e
    exact q d n' ⟨x, ed, ok⟩ hn
  obtain ⟨Ps, rfl, hP⟩ := cho hp
  rw [lm] at lp h2
  rw [List.length_map] at lp
  let R : Option LV → Option LV → Rho := fun x y => [some .pool, some (.dat (.int n)), some (.dat (.tuple (zs.map .str))), some (.dat (.tuple (Ps.map Pt.d))), x, y, none, none]
  refine ⟨_, rfl, .tuple (Ps.map Pt.d), rfl, R none none, rfl, ?_⟩
  refine ⟨rgD 0 n.toNat, ev_itG (ds := [.int n]) rfl (ran1_ok (by omega) (by omega)), ?_⟩
  have ln : (rgD 0 n.toNat).length = n.toNat := rgD_len _ _
  refine lcN_some (by show 7 < 8; decide) 1 (rgD 0 n.toNat) b2 _ (by rw [ln]; omega) (fun x hx b Q hb q => ?_) (fun r b3 hs h3 => ?_) (fun x => rfl)
  · exact wNext (m := 4) rfl rfl (by decide) (by decide) hb fun v n' v0 v1 hn => ⟨.int 0, rfl, _, rfl, _, rfl, q _ n' hn⟩
  rw [ln] at h3
  obtain ⟨hs', hsub, rfl⟩ : ∃ hs' : List Int, hs'.Sublist (rgI 0 n.toNat) ∧ r = hs'.map PyData.int := by
    rw [rgD_I] at hs
    exact List.sublist_map_iff.mp hs
  have hl : hs'.length ≤ n.toNat := by
    have := hsub.length_le
    unfold rgI at this
    rwa [List.length_map, List.length_range] at this
  have ha : hs'.Pairwise (· < ·) := (rgI_asc 0 n.toNat).sublist hsub
  have hh : ∀ x ∈ hs', 0 ≤ x ∧ x < n := fun x hx => by
    obtain ⟨i, hi, rfl⟩ := List.mem_map.mp (hsub.subset hx)
    have := List.mem_range.mp hi
    omega
  refine ⟨_, rfl, .tuple (hs'.map PyData.int), rfl, R (some (.dat (.tuple (hs'.map PyData.int)))) none, rfl, ?_⟩
  refine ⟨.list [S "oldest", S "youngest"], rfl, wNext (m := 2) rfl rfl (by decide) (by decide) (by omega) fun v4 b4 v40 v41 h4 => ?_⟩
  obtain ⟨kp, ekp, hkp⟩ : ∃ kp : Str, L2.atI [S "oldest", S "youngest"] v4 = some (.str kp) ∧ (kp = Str.ofString "oldest" ∨ kp = Str.ofString "youngest") := by
    have : v4 = 0 ∨ v4 = 1 := by omega
    rcases this with rfl | rfl
    · exact ⟨_, rfl, .inl rfl⟩
    · exact ⟨_, rfl, .inr rfl⟩
  refine ⟨.str kp, ekp, R (some (.dat (.tuple (hs'.map PyData.int)))) (some (.dat (.str kp))), rfl, ?_⟩
  refine ⟨.tuple (zs.map .str), rfl, wNext (m := (zs.map PyData.str).length) rfl rfl (by omega) (by omega) (by omega) fun v5 b5 v50 v51 h5 => ?_⟩
  obtain ⟨j, rfl⟩ : ∃ j : Nat, v5 = j := ⟨v5.toNat, by omega⟩
  obtain ⟨z, hzj⟩ : ∃ z, zs[j]? = some z := ⟨_, List.getElem?_eq_getElem (by omega)⟩
  refine ⟨.str z, at_map hzj, .tuple (Ps.map Pt.d), rfl, .str kp, rfl, .tuple (hs'.map PyData.int), rfl, .int 1, rfl, wNext (m := 6) rfl rfl (by decide) (by decide) (by omega) fun v7 b7 v70 v71 h7 => ?_⟩
  refine ⟨_, rfl, _, rfl, _, rfl, _, rfl, _, rfl, _, rfl, _, rfl, ?_⟩
  exact q _ b7 ⟨n, zs, ⟨z, Ps, kp, hs', 1 + v7⟩, rfl, rfl, ⟨List.mem_of_getElem? hzj, hP, by show 1 ≤ Ps.length; omega, by show Ps.length ≤ 3; omega, hkp, hh, by show hs'.length ≤ 6; omega, ha, by show 1 ≤ 1 + v7; omega, by show 1 + v7 ≤ 6; omega⟩⟩ (by omega)
theorem ok_world {f : Addr} {fd : FuncData} (F : Fun K "_law_world" "_law_world" s_law_world f fd) (m_range : mg "range" = none) (m_tuple : mg "tuple" = none) (C__law_next : Cl P w K mg base 1 "_law_next" ["_law_drawn", "_law_many"] (spN 1 gNext)) (C__law_names : Cl P w K mg base 2 "_law_names" ["_law_drawn", "_law_many"] (spN 1 gNames)) (C__law_source : Cl P w K mg base 2 "_law_source" ["_law_drawn", "_law_size", "_law_kinds", "_law_late"] (spN 3 gSource)) (C__law_way : Cl P w K mg base 3 "_law_way" ["_law_drawn", "_law_size", "_law_kinds"] (spN 2 gWay)) : FnOk P w K mg base CX0 4 f fd ["_law_drawn", "_law_late"] (spN 1 gWorld) := by
  refine okFnN F sc_law_world rfl fun cdv A outer s H E hr => ⟨_, (nSs_cons (nS_asg (K := K) (p := .nm 2) (ps_set (i := 2) sc_law_world.nd rfl (.inr rfl) (nE_op o_add (nE_pure (dE_c (μ := true) pe_int)) (nE_draw C__law_next (hr.mono (by omega)) (by rfl) (pv 0) (nA_cons (nE_pure (dE_c (μ := true) pe_int)) nA_nil)))))
  (nSs_cons (nS_asg (K := K) (p := .nm 3) (ps_set (i := 3) sc_law_world.nd rfl (.inr rfl) (nE_draw C__law_names (hr.mono (by omega)) (by rfl) (pv 0) (nA_cons (nE_op o_add (nE_pure (dE_c (μ := true) pe_int)) (nE_draw C__law_next (hr.mono (by omega)) (by rfl) (pv 0) (nA_cons (nE_pure (dE_c (μ := true) pe_int)) nA_nil))) nA_nil))))
  (nSs_cons (nS_asg (K := K) (p := .nm 4) (ps_set (i := 4) sc_law_world.nd rfl (.inl rfl) (nE_ix (nE_lst (nA_cons (nE_draw C__law_next (hr.mono (by omega)) (by rfl) (pv 0) (nA_cons (nE_pure (dE_c (μ := true) pe_int)) nA_nil)) (nA_cons (nE_op o_add (nE_pure (dE_c (μ := true) pe_int)) (nE_draw C__law_next (hr.mono (by omega)) (by rfl) (pv 0) (nA_cons (nE_pure (dE_c (μ := true) pe_int)) nA_nil))) nA_nil))) (nE_draw C__law_next (hr.mono (by omega)) (by rfl) (pv 0) (nA_cons (nE_pure (dE_c (μ := true) pe_int)) nA_nil)))))
  (nSs_cons (nS_asg (K := K) (p := .nm 5) (ps_set (i := 5) sc_law_world.nd rfl (.inl rfl) (nE_callTy c_tuple (by rfl) m_tuple (by decide +kernel) (nA_cons (nE_lc (K := K) (p := (.nm 7)) (pe_lc (own := [("_law_k", 7)]) (g := gP K (.nm 7)) rfl sc_law_world.nd (nI_pure (dI_ran1 (by rfl) m_range (dA_cons (dE_var (μ := true) (pv 4)) (dA_nil (μ := true))))) (blkOk_by (own := [("_law_k", 7)]) (N := ["_law_drawn", "_law_late", "_law_size", "_law_kinds", "_law_many", "_law_sources", "_law_ways", "_law_k"]) (sc := defScope s_law_world) (by decide +kernel)) (fun _ _ _ _ _ => (pg_name (i := 7) sc_law_world.nd rfl (.inl rfl))) (fun _ _ _ _ _ => nTs_nil) (fun _ _ _ _ _ => (nE_draw C__law_source (hr.mono (by omega)) (by rfl) (pv 0) (nA_cons (nE_pure (dE_var (μ := true) (pv 2))) (nA_cons (nE_pure (dE_var (μ := true) (pv 3))) (nA_cons (nE_pure (dE_var (μ := true) (pv 1))) nA_nil))))))) nA_nil))))
  (nSs_cons (nS_asg (K := K) (p := .nm 6) (ps_set (i := 6) sc_law_world.nd rfl (.inl rfl) (nE_callTy c_tuple (by rfl) m_tuple (by decide +kernel) (nA_cons (nE_lc (K := K) (p := (.nm 7)) (pe_lc (own := [("_law_k", 7)]) (g := gP K (.nm 7)) rfl sc_law_world.nd (nI_ran1 (by rfl) m_range (nA_cons (nE_ix (nE_lst (nA_cons (nE_draw C__law_next (hr.mono (by omega)) (by rfl) (pv 0) (nA_cons (nE_pure (dE_c (μ := true) pe_int)) nA_nil)) (nA_cons (nE_pure (dE_c (μ := true) pe_int)) nA_nil))) (nE_draw C__law_next (hr.mono (by omega)) (by rfl) (pv 0) (nA_cons (nE_pure (dE_c (μ := true) pe_int)) nA_nil))) nA_nil)) (blkOk_by (own := [("_law_k", 7)]) (N := ["_law_drawn", "_law_late", "_law_size", "_law_kinds", "_law_many", "_law_sources", "_law_ways", "_law_k"]) (sc := defScope s_law_world) (by decide +kernel)) (fun _ _ _ _ _ => (pg_name (i := 7) sc_law_world.nd rfl (.inl rfl))) (fun _ _ _ _ _ => nTs_nil) (fun _ _ _ _ _ => (nE_draw C__law_way (hr.mono (by omega)) (by rfl) (pv 0) (nA_cons (nE_pure (dE_var (μ := true) (pv 2))) (nA_cons (nE_pure (dE_var (μ := true) (pv 3))) nA_nil)))))) nA_nil))))
  (nSs_one (nS_retL (ps_ret (dE_tup (dA_cons (dE_var (μ := true) (pv 2)) (dA_cons (dE_var (μ := true) (pv 3)) (dA_cons (dE_var (μ := true) (pv 5)) (dA_cons (dE_var (μ := true) (pv 6)) (dA_nil (μ := true))))))))))))))), fun ds b Q l h => ?_⟩
  obtain ⟨⟨sn, rfl, s0, s1⟩, hb, q⟩ := h
  refine ⟨.int 1, rfl, wNext (m := 6) rfl rfl (by decide) (by decide) (by omega) fun v0 b0 v00 v01 h0 => ?_⟩
  obtain ⟨n, hn⟩ : ∃ n : Int, n = 1 + v0 := ⟨_, rfl⟩
  let R : Option LV → Option LV → Option LV → Option LV → Rho := fun k x y u => [some .pool, some (.dat (.int sn)), some (.dat (.int n)), k, x, y, u, none]
  refine ⟨.int n, by rw [hn]; rfl, R none none none none, by rfl, ?_⟩
  refine ⟨rfl, .int 1, rfl, wNext (m := 4) rfl rfl (by decide) (by decide) (by omega) fun v1 b1 v10 v11 h1 => ⟨_, rfl, _, rfl, rfl, ⟨_, rfl, by omega, by omega⟩, by omega, fun d b2 ⟨zs, ed, hZ⟩ h2 => ?_⟩⟩
  subst ed
  refine ⟨R (some (.dat (.tuple (zs.map .str)))) none none none, rfl, ?_⟩
  refine wNext (m := 7) rfl rfl (by decide) (by decide) (by omega) fun v2 b3 v20 v21 h3 => ⟨.int 1, rfl, wNext (m := 3) rfl rfl (by decide) (by decide) (by omega) fun v3 b4 v30 v31 h4 => ⟨_, rfl, _, rfl, _, rfl, _, rfl, wNext (m := 2) rfl rfl (by decide) (by decide) (by omega) fun v4 b5 v40 v41 h5 => ?_⟩⟩
  obtain ⟨m1, em1, m10, m16⟩ : ∃ m : Int, L2.atI [PyData.int v2, .int (1 + v3)] v4 = some (.int m) ∧ 0 ≤ m ∧ m ≤ 6 := by
    have : v4 = 0 ∨ v4 = 1 := by omega
    rcases this with rfl | rfl
    · exact ⟨_, rfl, by omega, by omega⟩
    · exact ⟨_, rfl, by omega, by omega⟩
  refine ⟨_, em1, R (some (.dat (.tuple (zs.map .str)))) (some (.dat (.int m1))) none none, rfl, ?_⟩
  refine ⟨rgD 0 m1.toNat, ev_itG (ds := [.int m1]) rfl (ran1_ok (by omega) (by omega)), ?_⟩
  have lm : (rgD 0 m1.toNat).length = m1.toNat := rgD_len _ _
  refine lcN_all 9 (fun d => ∃ x : Sr, d = x.d ∧ x.ok n zs) (rgD 0 m1.toNat) b5 _ (by rw [lm]; omega) (fun x hx b Q hb q => ?_) (fun ss b6 ls hss h6 => ?_)
  · obtain ⟨i, _, rfl⟩ := List.mem_map.mp hx
    refine ⟨_, rfl, rfl, .int n, rfl, .tuple (zs.map .str), rfl, .int sn, rfl, _, rfl, _, rfl, _, rfl, rfl, ⟨n, zs, sn, rfl, hZ, by omega, by omega, s0, s1⟩, hb, fun d n' ⟨n2, zs', s', x, e, ed, ok⟩ hn => ?_⟩
    injection e with e1 e
    injection e with e2 e
    cases int_i e1
    cases tup_inj str_i e2
    exact q d n' ⟨x, ed, ok⟩ hn
  obtain ⟨Ss, rfl, hS⟩ := cho hss
  rw [lm] at ls h6
  rw [List.length_map] at ls
  refine ⟨_, rfl, .tuple (Ss.map Sr.d), rfl, R (some (.dat (.tuple (zs.map .str)))) (some (.dat (.int m1))) (some (.dat (.tuple (Ss.map Sr.d)))) none, rfl, ?_⟩
  refine wNext (m := 9) rfl rfl (by decide) (by decide) (by omega) fun v6 b7 v60 v61 h7 => ⟨_, rfl, _, rfl, _, rfl, _, rfl, wNext (m := 2) rfl rfl (by decide) (by decide) (by omega) fun v7 b8 v70 v71 h8 => ?_⟩
  obtain ⟨m2, em2, m20, m28⟩ : ∃ m : Int, L2.atI [PyData.int v6, .int 3] v7 = some (.int m) ∧ 0 ≤ m ∧ m ≤ 8 := by
    have : v7 = 0 ∨ v7 = 1 := by omega
    rcases this with rfl | rfl
    · exact ⟨_, rfl, by omega, by omega⟩
    · exact ⟨_, rfl, by omega, by omega⟩
  refine ⟨_, em2, _, rfl, rgD 0 m2.toNat, ran1_ok (by omega) (by omega), ?_⟩
  have lm2 : (rgD 0 m2.toNat).length = m2.toNat := rgD_len _ _
  refine lcN_all 40 (fun d => ∃ x : Wy, d = x.d ∧ x.ok n zs) (rgD 0 m2.toNat) b8 _ (by rw [lm2]; omega) (fun x hx b Q hb q => ?_) (fun ws b9 lw hws h9 => ?_)
  · obtain ⟨i, _, rfl⟩ := List.mem_map.mp hx
    refine ⟨_, rfl, rfl, .int n, rfl, .tuple (zs.map .str), rfl, _, rfl, _, rfl, rfl, ⟨n, zs, rfl, hZ, by omega, by omega⟩, hb, fun d n' ⟨n2, zs', x, e, ed, ok⟩ hn => ?_⟩
    injection e with e1 e
    injection e with e2 e
    cases int_i e1
    cases tup_inj str_i e2
    exact q d n' ⟨x, ed, ok⟩ hn
  obtain ⟨Ws, rfl, hW⟩ := cho hws
  rw [lm2] at lw h9
  rw [List.length_map] at lw
  refine ⟨_, rfl, .tuple (Ws.map Wy.d), rfl, R (some (.dat (.tuple (zs.map .str)))) (some (.dat (.int m1))) (some (.dat (.tuple (Ss.map Sr.d)))) (some (.dat (.tuple (Ws.map Wy.d)))), rfl, ?_⟩
  refine ⟨_, rfl, q _ b9 ⟨⟨n, zs, Ss, Ws⟩, rfl, ⟨by show 1 ≤ n; omega, by show n ≤ 6; omega, hZ.l1, hZ.l4, fun z hz => ?_, hZ.g, hZ.r, by show Ss.length ≤ 6; omega, hS, by show Ws.length ≤ 8; omega, hW⟩⟩ (by omega)⟩
  obtain ⟨g1, g8, gl⟩ := hZ.g z hz
  exact ⟨ok_of_let gl, by omega⟩
end
end Dl
namespace Dl
open PySem PySem.Spec PyProof.Rows L2 Rt
/-! ### a display of one pair, the value a whole number -/
def intOf : D → Option Int
  | .int x => some x
  | _ => none
def eDs1 (f1 g1 : EF) : EF := fun ρ => ((f1 ρ).bind keyOf).bind fun k1 => ((g1 ρ).bind intOf).map fun a => .dict (putD [] k1 (.int a))
theorem Rp.intV {M : Addr → Prop} {H : Hp} {v : V} {d : D} {x : Int} (r : Rp M H v d) (h : intOf d = some x) : v = .int x := by
  cases r <;> cases h
  rfl
section
variable {X : Cx} {K : PySem.W.Frag}
theorem dE_ds1 {k1 v1 : Expr} {pos : Pos} {f1 g1 : EF} {μ : Bool} (a1 : PE X k1 (tD μ f1)) (b1 : PE X v1 (tD μ g1)) : PE X (.Dict [some k1] [v1] pos) (tD μ (eDs1 f1 g1)) := (pe_disp (pps_cons a1 b1 pps_nil) rfl rfl (by simp) (by simp)).wk fun σ H Q q => by
  obtain ⟨M0, H0, ρ, d, R, e, q⟩ := q
  obtain ⟨ka, e1, e⟩ := some_bind e
  obtain ⟨x1, e1, h1⟩ := some_bind e1
  obtain ⟨a, e2, rfl⟩ := some_map e
  obtain ⟨y1, e2, h2⟩ := some_bind e2
  intro p np
  have R1 := R.mono (smN (o := .dK []) np)
  refine ⟨M0, H0, ρ, x1, R1, e1, fun u1 H1 s1 r1 => ⟨M0, H0, ρ, y1, R1.mono s1, e2, fun u2 H2 s2 r2 => ?_⟩⟩
  have s14 := s1.trans s2
  obtain rfl := r2.intV h2
  have z1 := r1.key h1
  subst z1
  refine ⟨s14 _ _ upd_same, [(ka, .int a)], rfl, (by show 1 ≤ 15; decide), q _ _ (fun o w eo => ?_) (.dic upd_same ((R.domu μ).not np) ?_)⟩
  · rw [upd_ne (ne_of_none eo np)]
    exact s14 _ _ ((smN np) _ _ eo)
  · exact RpKV.nil.put (.int a)
end
end Dl
namespace Dl
open PySem PySem.Spec PyProof.Rows L2 Rt
/-! ### bits -/
def iiD (f : Int → Int → Option Int) : D → D → Option D
  | .int i, .int j => (f i j).map .int
  | _, _ => none
theorem rD_ii {f : Int → Int → Option Int} {x y : V} {H : Hp} {Q : VK} (h : rD (iiD f) x y H Q) : ∃ i j k, x = .int i ∧ y = .int j ∧ f i j = some k ∧ Q (.int k) H := by
  obtain ⟨M, a, b, d, dm, ra, rb, e, q⟩ := h
  cases a <;> try (cases e; done)
  cases b <;> try (cases e; done)
  cases ra
  cases rb
  obtain ⟨k, ek, rfl⟩ := some_map e
  exact ⟨_, _, k, rfl, rfl, ek, q _ _ (Same.refl _) (.int k)⟩
def andD : D → D → Option D := iiD fun i j => some (Builtin.bitAnd i j)
def orD : D → D → Option D := iiD fun i j => some (Builtin.bitOr i j)
def shlD : D → D → Option D := iiD fun i j => if 0 ≤ j ∧ j ≤ 1000 ∧ i.natAbs < 2 ^ 64 then some (i * 2 ^ j.toNat) else none
def shrD : D → D → Option D := iiD fun i j => if 0 ≤ j then some (i / 2 ^ j.toNat) else none
section
variable {X : Cx} {K : PySem.W.Frag}
theorem o_band : OpR X (binaryOp .BitAnd) (rD andD) := OpR.weak op_and fun x y H Q h => by
  obtain ⟨i, j, k, rfl, rfl, e, q⟩ := rD_ii h
  cases e
  exact ⟨i, j, rfl, rfl, q⟩
theorem o_bor : OpR X (binaryOp .BitOr) (rD orD) := OpR.weak op_or fun x y H Q h => by
  obtain ⟨i, j, k, rfl, rfl, e, q⟩ := rD_ii h
  cases e
  exact ⟨i, j, rfl, rfl, q⟩
theorem o_shl : OpR X (binaryOp .LShift) (rD shlD) := OpR.weak op_shl fun x y H Q h => by
  obtain ⟨i, j, k, rfl, rfl, e, q⟩ := rD_ii h
  obtain ⟨⟨h0, h1, h2⟩, rfl⟩ := iteS e
  exact ⟨i, j, rfl, rfl, ⟨h0, by omega, h2⟩, q⟩
theorem o_shr : OpR X (binaryOp .RShift) (rD shrD) := OpR.weak op_shr fun x y H Q h => by
  obtain ⟨i, j, k, rfl, rfl, e, q⟩ := rD_ii h
  obtain ⟨h0, rfl⟩ := iteS e
  exact ⟨i, j, rfl, rfl, h0, q⟩
theorem ip_bor : PIp X .BitOr (rD orD) := fun pn s σ H x y v u Q I r1 r2 h => by
  obtain ⟨i, j, k, rfl, rfl, e, q⟩ := rD_ii h
  cases e
  exact iop_or pn s σ H _ _ v u Q I r1 r2 ⟨i, j, rfl, rfl, q⟩
def addI : D → D → Option D := iiD fun i j => some (i + j)
def subI : D → D → Option D := iiD fun i j => some (i - j)
theorem ip_addD : PIp X .Add (rD addI) := fun pn s σ H x y v u Q I r1 r2 h => by
  obtain ⟨i, j, k, rfl, rfl, e, q⟩ := rD_ii h
  cases e
  exact ip_add pn s σ H _ _ v u Q I r1 r2 ⟨i, j, rfl, rfl, q⟩
theorem ip_subD : PIp X .Sub (rD subI) := fun pn s σ H x y v u Q I r1 r2 h => by
  obtain ⟨i, j, k, rfl, rfl, e, q⟩ := rD_ii h
  cases e
  exact ip_sub pn s σ H _ _ v u Q I r1 r2 ⟨i, j, rfl, rfl, q⟩
def invD : D → Option D
  | .int i => some (.int (Builtin.bitNot i))
  | _ => none
theorem dE_inv {a : Expr} {pos : Pos} {f : EF} {μ : Bool} (h : PE X a (tD μ f)) : PE X (.UnaryOp .Invert a pos) (tD μ (e1 invD f)) := (pe_un un_inv h).wk fun σ H Q q => by
  obtain ⟨M0, H0, ρ, d, R, e, q⟩ := q
  obtain ⟨d1, e1, e⟩ := some_bind e
  refine ⟨M0, H0, ρ, d1, R, e1, fun v H1 s1 r1 => ?_⟩
  cases r1 <;> cases e
  exact ⟨_, rfl, q _ _ s1 (.int _)⟩
def blD : D → Option D
  | .int i => some (.int (Builtin.Int.intBits i : Nat))
  | _ => none
theorem dE_bl {o : Expr} {apos pos : Pos} {f : EF} {μ : Bool} (ho : PE X o (tD μ f)) (hbase : attributeBase o "bit_length" X.env (eval o X.env) = eval o X.env := by rfl) (hline : (apos.endLine == pos.line) = true := by rfl) : PE X (.Call (.Attribute o "bit_length" apos) [] [] pos) (tD μ (e1 blD f)) := (pe_bits ho hbase hline).wk fun σ H Q q => by
  obtain ⟨M0, H0, ρ, d, R, e, q⟩ := q
  obtain ⟨d1, e1, e⟩ := some_bind e
  refine ⟨M0, H0, ρ, d1, R, e1, fun v H1 s1 r1 => ?_⟩
  cases r1 <;> cases e
  exact ⟨_, rfl, q _ _ s1 (.int _)⟩
/-! ### a op= b -/
theorem dS_aug {st : Stmt} {i : Nat} {g : D → D → Option D} {f : EF} (h : PS X st (tAug i (tD true f) (rD g))) : PS X st (tS (sAsg (.nm i) (e2 g (eVar i) f))) := h.wk fun Dn σ H q => by
  obtain ⟨M0, H0, ρ, o, R, e, q⟩ := tS_iff.mp q
  obtain ⟨d, ed, e⟩ := some_bind e
  obtain ⟨ρ', eb, rfl⟩ := some_map e
  obtain ⟨a, ea, ed⟩ := some_bind ed
  obtain ⟨b, eb2, ed⟩ := some_bind ed
  have ea' : ρ[i]? = some (some (.dat a)) := by
    unfold eVar at ea
    split at ea
    · rename_i d' z
      cases ea
      exact z
    · cases ea
  obtain ⟨v, hv, rv⟩ := R.dat i a ea'
  refine ⟨v, hv, M0, H0, ρ, b, R, eb2, fun y H1 s1 r1 => ?_⟩
  refine ⟨_, a, b, d, (R.mono s1).domu true, rv.mono (.of s1), r1, ed, fun z H2 s2 r2 => ?_⟩
  have s12 := s1.trans s2
  unfold bindP at eb
  obtain ⟨_, rfl⟩ := iteS eb
  exact q _ _ ((R.mono s12).set r2) ((Stp.of s12).trans ⟨.refl, fun p m => .inl (Mu.shrink (fun ds e => by cases e) p m)⟩)
/-- xs[k] op= e of a list of one's own -/
def sPutA (i : Nat) (fi : EF) (g : D → D → Option D) (f : EF) : Rho → Option Out := fun ρ => (fi ρ).bind fun x => match ρ[i]? with
  | some (some (.own ds)) => match x with
    | .int k => if 0 ≤ k then (ixN ds.length k).bind fun j => (ds[j]?).bind fun old => (f ρ).bind fun y => (g old y).map fun z => .nx (ρ.set i (some (.own (ds.set j z)))) else none
    | _ => none
  | _ => none
def rGetL : V → V → Hp → VK → Prop := fun x y H Q => ∃ (p : Addr) (xs : List V) (j : Nat) (v : V), x = .ref p ∧ y = .int (j : Int) ∧ H p = some (.lst xs) ∧ xs[j]? = some v ∧ Q v H
theorem gt_listL : PGet X rGetL := by
  intro pins s σ H x y v u Q I rx ry h
  obtain ⟨p, xs, j, z, rfl, rfl, hq, he, q⟩ := h
  cases rx
  obtain ⟨t, rfl⟩ := _root_.id ry
  obtain ⟨its, rv, pl, hz⟩ := I.list (SqL.of hq)
  obtain ⟨w, ew, rw'⟩ := rv.get he
  have hl := rv.length
  have hj := (List.getElem?_eq_some_iff.mp he).1
  have hn := line63
  exact getItem_listL pl.isList (Int.natCast_nonneg _) (by omega) (by rw [Int.toNat_natCast]; exact ew) ⟨z, H, I, rw', q⟩
theorem ixN_nat {n k j : Nat} (h : ixN n (k : Int) = some j) : j = k := by
  unfold ixN at h
  rw [if_pos (by omega)] at h
  split at h <;> cases h
  omega
theorem dS_putA {st : Stmt} {i : Nat} {f fi : EF} {g : D → D → Option D} (h : PS X st (tAugS (tVar i) (tD true fi) (tD true f) rGetL (rD g) rSetLL)) : PS X st (tS (sPutA i fi g f)) := h.wk fun Dn σ H q => by
  obtain ⟨M0, H0, ρ, o, R, e, q⟩ := tS_iff.mp q
  obtain ⟨x, ex, e⟩ := some_bind e
  split at e
  · rename_i ds z
    split at e
    · rename_i k
      by_cases hk : 0 ≤ k
      · rw [if_pos hk] at e
        obtain ⟨j, ej, e⟩ := some_bind e
        obtain ⟨old, eo, e⟩ := some_bind e
        obtain ⟨y, ey, e⟩ := some_bind e
        obtain ⟨w, ew, rfl⟩ := some_map e
        obtain ⟨k, rfl⟩ : ∃ n : Nat, k = n := ⟨k.toNat, by omega⟩
        have hj := ixN_nat ej
        subst hj
        obtain ⟨p, vs, a, c, h0, l, r⟩ := R.own i ds z
        refine ⟨.ref p, a, M0, H0, ρ, .int (j : Int), R, ex, fun u H1 s1 r1 => ?_⟩
        cases r1
        obtain ⟨vo, hvo, ro⟩ := r.get eo
        refine ⟨p, vs, j, vo, rfl, rfl, s1 _ _ c, hvo, M0, H0, ρ, y, R.mono s1, ey, fun u2 H2 s2 r2 => ?_⟩
        have s12 := s1.trans s2
        refine ⟨_, old, y, w, (R.mono s12).domu true, ro.mono (.of s12), r2, ew, fun u3 H3 s3 r3 => ?_⟩
        have s13 := s12.trans s3
        refine ⟨p, vs, j, j, rfl, rfl, s13 _ _ c, by rw [r.len]; exact ej, fun H4 e4 => ?_⟩
        subst e4
        obtain ⟨R4, S4⟩ := (R.mono s13).ownSet z a (s13 _ _ c) (vs' := vs.set j u3) (by rw [List.length_set]; exact l) (RpAll.set r3 j (r.mono (.of s13)))
        exact q _ _ R4 ((Stp.of s13).trans S4)
      · rw [if_neg hk] at e
        cases e
    · cases e
  · cases e
/-! ### a = b = e -/
def sAsg2 (i j : Nat) (f : EF) : Rho → Option Out := fun ρ => (f ρ).map fun d => .nx ((ρ.set i (some (.dat d))).set j (some (.dat d)))
theorem dS_asg2 {st : Stmt} {i j : Nat} {f : EF} (h : PS X st (tAsg2 (tD true f) (gName i) (gName j))) : PS X st (tS (sAsg2 i j f)) := h.wk fun Dn σ H q => by
  obtain ⟨M0, H0, ρ, o, R, e, q⟩ := tS_iff.mp q
  obtain ⟨d, ed, rfl⟩ := some_map e
  refine ⟨M0, H0, ρ, d, R, ed, fun v H1 s1 r1 => ?_⟩
  have sh : ∀ a', Mu true M0 (σ.set i (some v)) (ρ.set i (some (.dat d))) a' → Mu true M0 σ ρ a' := Mu.shrink fun ds e => by cases e
  have R1 := (R.mono s1).set (i := i) r1
  have R2 := R1.set (i := j) (r1.reM fun a m => .inl (sh a m))
  exact q _ _ R2 ((Stp.of s1).trans ⟨.refl, fun p m => .inl (sh p (Mu.shrink (fun ds e => by cases e) p m))⟩)
/-! ### max(xs, default=d), min(xs, default=d) -/
theorem intsB_get : ∀ {ds : List D} {ns : List Int}, intsD ds = some ns → ds = ns.map .int
  | [], ns, e => by cases e; rfl
  | d :: ds, ns, e => by
    cases d <;> try (cases e; done)
    obtain ⟨r, er, rfl⟩ := some_map (show (intsD ds).map _ = some ns from e)
    rw [intsB_get er]
    rfl
def rCK (g : D → D → Option D) : List V → List V → Hp → VK → Prop := fun xs zs H Q => ∃ M x z a b d, xs = [x] ∧ zs = [z] ∧ Dom M H ∧ Rp M H x a ∧ Rp M H z b ∧ g a b = some d ∧ ∀ v H', Same H H' → Rp M H' v d → Q v H'
def bestDf (c : Int → List Int → Int) : D → D → Option D
  | .list ds, d => (intsD ds).map fun ns => match ns with
    | [] => d
    | n :: ns => .int (c n ns)
  | _, _ => none
def maxDf : D → D → Option D := bestDf PySem.W.maxOf
def minDf : D → D → Option D := bestDf PySem.W.minOf
theorem c_maxDf (hc : X.calm = true) (hu : X.A.units + 64 < cLine) : CallRK X (.builtin "max") [Str.ofString "default"] (rCK maxDf) := by
  intro pn s σ H xs zs us ws Q I r rz h
  obtain ⟨M, x, z, a, b, d, rfl, rfl, dm, ra, rb, e, q⟩ := h
  cases a <;> try (cases e; done)
  rename_i ds
  obtain ⟨ns, en, rfl⟩ := some_map (show (intsD ds).map _ = some d from e)
  cases ra with
  | lst t n l rr =>
    obtain ⟨w, rfl, rw1⟩ := rz.one
    have hv := rr.ints en
    subst hv
    obtain ⟨its, rv, hl, _⟩ := I.list (SqL.of t)
    rw [Vals.ref1 r]
    have hds : ds = ns.map .int := intsB_get en
    subst hds
    obtain ⟨as, rr2⟩ := RpAll.reads I rr rv
    refine PySem.W.max_list_datum_default (α := Int) (xs := ns) (I.ok.hd hc) hl.isList ⟨as, show ReadsAll s.heap its.toArray.toList (ns.map .int) as by simpa using rr2⟩ (Nat.lt_of_le_of_lt (show X.A.units + 1 + 0 ≤ X.A.units + 64 by omega) hu) (fun e0 h' tk hk => ?_) fun y ys i v h' tk e0 hv hm hk => ?_
    · subst e0
      exact ⟨z, H, I.kept hk, rw1, q _ _ (Same.refl _) rb⟩
    · subst e0
      obtain ⟨w2, dw, rw2, rp⟩ := rv_get (i := i) rv rr (by simpa using hv)
      obtain ⟨bs, rb2⟩ := hm
      obtain ⟨cs, rc⟩ := Rp.reads I rp rw2
      have ed := (reads_det (fun b o e _ => hk b o e) rc rb2).1
      have ed : PyData.int (PySem.W.maxOf y ys) = dw := ed
      subst ed
      exact ⟨w2, H, I.kept hk, rw2, q _ _ (Same.refl _) rp⟩
theorem c_minDf (hc : X.calm = true) (hu : X.A.units + 64 < cLine) : CallRK X (.builtin "min") [Str.ofString "default"] (rCK minDf) := by
  intro pn s σ H xs zs us ws Q I r rz h
  obtain ⟨M, x, z, a, b, d, rfl, rfl, dm, ra, rb, e, q⟩ := h
  cases a <;> try (cases e; done)
  rename_i ds
  obtain ⟨ns, en, rfl⟩ := some_map (show (intsD ds).map _ = some d from e)
  cases ra with
  | lst t n l rr =>
    obtain ⟨w, rfl, rw1⟩ := rz.one
    have hv := rr.ints en
    subst hv
    obtain ⟨its, rv, hl, _⟩ := I.list (SqL.of t)
    rw [Vals.ref1 r]
    have hds : ds = ns.map .int := intsB_get en
    subst hds
    obtain ⟨as, rr2⟩ := RpAll.reads I rr rv
    refine PySem.W.min_list_datum_default (α := Int) (xs := ns) (I.ok.hd hc) hl.isList ⟨as, show ReadsAll s.heap its.toArray.toList (ns.map .int) as by simpa using rr2⟩ (Nat.lt_of_le_of_lt (show X.A.units + 1 + 0 ≤ X.A.units + 64 by omega) hu) (fun e0 h' tk hk => ?_) fun y ys i v h' tk e0 hv hm hk => ?_
    · subst e0
      exact ⟨z, H, I.kept hk, rw1, q _ _ (Same.refl _) rb⟩
    · subst e0
      obtain ⟨w2, dw, rw2, rp⟩ := rv_get (i := i) rv rr (by simpa using hv)
      obtain ⟨bs, rb2⟩ := hm
      obtain ⟨cs, rc⟩ := Rp.reads I rp rw2
      have ed := (reads_det (fun b o e _ => hk b o e) rc rb2).1
      have ed : PyData.int (PySem.W.minOf y ys) = dw := ed
      subst ed
      exact ⟨w2, H, I.kept hk, rw2, q _ _ (Same.refl _) rp⟩
theorem dE_bestDf {nm : Str} {id : String} {e e2' : Expr} {p pos kpos : Pos} {g : D → D → Option D} {f1 f2 : EF} {μ : Bool} (c : CallRK X (.builtin id) [Str.ofString "default"] (rCK g)) (h : PE X e (tD μ f1)) (h2 : PE X e2' (tD μ f2)) (hg : Gl X nm) (hm : X.mg nm = none) (hv : bootBuiltins nm = some (.builtin id)) (hn : nm ≠ "__name__" := by decide) (hdb : (nm == ("__debug__" : Str)) = false := by decide) (he : starEach [e] X.env = (false, eval e X.env) :: starEach [] X.env := by rfl)
    (he2 : backTo pos (starEach [e] X.env) = (false, eval e X.env) :: backTo pos (starEach [] X.env) := by rfl) (hpl : (backTo pos (starEach [e] X.env)).any (·.1) = false := by rfl) (hall : (backToKw pos (keywordEach [⟨some "default", e2', kpos⟩] X.env)).all (·.1.isSome) = true := by rfl) (hnone : (backToKw pos (keywordEach [⟨some "default", e2', kpos⟩] X.env)).any (·.1.isNone) = false := by rfl) (hks : (backToKw pos (keywordEach [⟨some "default", e2', kpos⟩] X.env)).filterMap (·.1) = [Str.ofString "default"] := by rfl) :
    PE X (.Call (.Name nm p) [e] [⟨some "default", e2', kpos⟩] pos) (tD μ (e2 g f1 f2)) := (pe_callBK c hg hm hv (pa_cons h pa_nil he) (pk_cons h2 pk_nil) hn hdb he2 hpl hall hnone hks).wk fun σ H Q q => by
  obtain ⟨M0, H0, ρ, d, R, e, q⟩ := q
  obtain ⟨d1, e1, e⟩ := some_bind e
  obtain ⟨d2, e2, e⟩ := some_bind e
  refine ⟨M0, H0, ρ, d1, R, e1, fun v H1 s1 r1 => ⟨M0, H0, ρ, d2, R.mono s1, e2, fun u H2 s2 r2 => ?_⟩⟩
  exact ⟨_, v, u, d1, d2, d, rfl, rfl, ((R.mono s1).mono s2).domu μ, r1.mono (.of s2), r2, e, fun w H3 s3 r3 => q w H3 ((s1.trans s2).trans s3) r3⟩
end
end Dl
namespace Dl
open PySem PySem.Spec PyProof.Rows L2 Rt
/-! ### new lists of new lists -/
mutual
inductive Fz (H0 H : Hp) : V → D → List Addr → Prop
  | leaf {v : V} {d : D} : cD v = some d → Fz H0 H v d []
  | node {p : Addr} {vs : List V} {ds : List D} {L : List Addr} : H0 p = none → H p = some (.lst vs) → vs.length ≤ sizeLine → FzAll H0 H vs ds L → p ∉ L → Fz H0 H (.ref p) (.list ds) (p :: L)
inductive FzAll (H0 H : Hp) : List V → List D → List Addr → Prop
  | nil : FzAll H0 H [] [] []
  | cons {v : V} {vs : List V} {d : D} {ds : List D} {L L' : List Addr} : Fz H0 H v d L → FzAll H0 H vs ds L' → (∀ a ∈ L, a ∉ L') → FzAll H0 H (v :: vs) (d :: ds) (L ++ L')
end
mutual
theorem Fz.mono {H0 H H' : Hp} : ∀ {v : V} {d : D} {L : List Addr}, Fz H0 H v d L → (∀ a ∈ L, ∀ o, H a = some o → H' a = some o) → Fz H0 H' v d L
  | _, _, _, .leaf h, _ => .leaf h
  | _, _, _, .node n e l h m, k => .node n (k _ (List.mem_cons_self ..) _ e) l (FzAll.mono h fun a ha => k a (List.mem_cons_of_mem _ ha)) m
theorem FzAll.mono {H0 H H' : Hp} : ∀ {vs : List V} {ds : List D} {L : List Addr}, FzAll H0 H vs ds L → (∀ a ∈ L, ∀ o, H a = some o → H' a = some o) → FzAll H0 H' vs ds L
  | _, _, _, .nil, _ => .nil
  | _, _, _, .cons h t m, k => .cons (Fz.mono h fun a ha => k a (List.mem_append_left _ ha)) (FzAll.mono t fun a ha => k a (List.mem_append_right _ ha)) m
end
mutual
theorem Fz.new {H0 H : Hp} : ∀ {v : V} {d : D} {L : List Addr}, Fz H0 H v d L → ∀ a ∈ L, H0 a = none ∧ ∃ vs, H a = some (.lst vs)
  | _, _, _, .leaf h, a, ha => nomatch ha
  | _, _, _, .node n e l h m, a, ha => by
    rcases List.mem_cons.mp ha with rfl | ha
    · exact ⟨n, _, e⟩
    · exact FzAll.new h a ha
theorem FzAll.new {H0 H : Hp} : ∀ {vs : List V} {ds : List D} {L : List Addr}, FzAll H0 H vs ds L → ∀ a ∈ L, H0 a = none ∧ ∃ vs, H a = some (.lst vs)
  | _, _, _, .nil, a, ha => nomatch ha
  | _, _, _, .cons h t m, a, ha => by
    rcases List.mem_append.mp ha with ha | ha
    · exact Fz.new h a ha
    · exact FzAll.new t a ha
end
mutual
theorem Fz.anti {H0 H1 H : Hp} (s : Same H0 H1) : ∀ {v : V} {d : D} {L : List Addr}, Fz H1 H v d L → Fz H0 H v d L
  | _, _, _, .leaf h => .leaf h
  | _, _, _, .node n e l h m => .node (by
    cases z : H0 _ with
    | none => rfl
    | some o => rw [s _ _ z] at n; cases n) e l (FzAll.anti s h) m
theorem FzAll.anti {H0 H1 H : Hp} (s : Same H0 H1) : ∀ {vs : List V} {ds : List D} {L : List Addr}, FzAll H1 H vs ds L → FzAll H0 H vs ds L
  | _, _, _, .nil => .nil
  | _, _, _, .cons h t m => .cons (Fz.anti s h) (FzAll.anti s t) m
end
mutual
theorem Fz.rp {M : Addr → Prop} {H0 H : Hp} : ∀ {v : V} {d : D} {L : List Addr}, Fz H0 H v d L → (∀ a ∈ L, ¬ M a) → Rp M H v d
  | _, _, _, .leaf h, _ => cD.rp h
  | _, _, _, .node n e l h m, k => .lst e (k _ (List.mem_cons_self ..)) l (FzAll.rp h fun a ha => k a (List.mem_cons_of_mem _ ha))
theorem FzAll.rp {M : Addr → Prop} {H0 H : Hp} : ∀ {vs : List V} {ds : List D} {L : List Addr}, FzAll H0 H vs ds L → (∀ a ∈ L, ¬ M a) → RpAll M H vs ds
  | _, _, _, .nil, _ => .nil
  | _, _, _, .cons h t m, k => .cons (Fz.rp h fun a ha => k a (List.mem_append_left _ ha)) (FzAll.rp t fun a ha => k a (List.mem_append_right _ ha))
end
theorem FzAll.len {H0 H : Hp} : ∀ {vs : List V} {ds : List D} {L : List Addr}, FzAll H0 H vs ds L → vs.length = ds.length
  | _, _, _, .nil => rfl
  | _, _, _, .cons _ t _ => congrArg (· + 1) t.len
theorem FzAll.app {H0 H : Hp} : ∀ {vs ws : List V} {ds es : List D} {L L' : List Addr}, FzAll H0 H vs ds L → FzAll H0 H ws es L' → (∀ a ∈ L, a ∉ L') → FzAll H0 H (vs ++ ws) (ds ++ es) (L ++ L')
  | _, _, _, _, _, _, .nil, t, _ => t
  | _, _, _, _, _, _, .cons (L := L1) (L' := L2) h t m, t2, k => by
    rw [List.append_assoc]
    refine .cons h (t.app t2 fun a ha => k a (List.mem_append_right _ ha)) fun a ha hb => ?_
    rcases List.mem_append.mp hb with hb | hb
    · exact m a ha hb
    · exact k a (List.mem_append_left _ ha) hb
theorem FzAll.leaves {H0 H : Hp} : ∀ {vs : List V} {ds : List D}, vs.length = ds.length → (∀ (i : Nat) (v : V) (d : D), vs[i]? = some v → ds[i]? = some d → cD v = some d) → FzAll H0 H vs ds []
  | [], [], _, _ => .nil
  | [], _ :: _, e, _ => nomatch e
  | _ :: _, [], e, _ => nomatch e
  | v :: vs, d :: ds, e, h => .cons (L := []) (L' := []) (.leaf (h 0 v d rfl rfl)) (FzAll.leaves (by simpa using e) fun i v d a b => h (i + 1) v d a b) fun a ha => nomatch ha
theorem cD_nl {v : V} {ds : List D} (h : cD v = some (.list ds)) : False := by
  cases v with
  | str x =>
    have h : (if x.length ≤ sizeLine then some (PyData.str x) else none) = some (.list ds) := h
    split at h <;> cases h
  | _ => cases h
def fl : D → Bool
  | .none => true
  | .bool _ => true
  | .int _ => true
  | _ => false
theorem Rp.fl {M : Addr → Prop} {H : Hp} {v : V} {d : D} (r : Rp M H v d) (h : Dl.fl d = true) : cD v = some d := by
  cases r <;> first | rfl | cases h
/-- a reading that tells new lists of new lists -/
def tF (f : EF) : TE := fun σ H Q => ∃ M0 H0 ρ d, Rs M0 H0 H σ ρ ∧ f ρ = some d ∧ ∀ v H' L, Same H H' → Fz H H' v d L → Q v H'
def eFl (f : EF) : EF := fun ρ => (f ρ).bind fun d => match d with
  | .list ds => if ds.all fl = true then some (.list ds) else none
  | _ => none
section
variable {X : Cx} {K : PySem.W.Frag}
theorem tF_tN {f : EF} {σ : L2.St} {H : Hp} {Q : VK} (q : tF (eFl f) σ H Q) : tN f σ H Q := by
  obtain ⟨M0, H0, ρ, d, R, e, q⟩ := q
  obtain ⟨d1, e1, e⟩ := some_bind e
  split at e
  · rename_i ds
    obtain ⟨hf, rfl⟩ := iteS e
    refine ⟨M0, H0, ρ, ds, R, e1, fun p vs H' np s ep l r => q _ H' [p] s (.node np ep l (FzAll.leaves r.len fun i v d ev ed => ?_) (by simp))⟩
    obtain ⟨v', ev', rv⟩ := r.get ed
    rw [ev] at ev'
    cases ev'
    exact rv.fl (List.all_eq_true.mp hf d (List.mem_of_getElem? ed))
  · cases e
theorem fE_new {e : Expr} {f : EF} (h : PE X e (tN f)) : PE X e (tF (eFl f)) := h.wk fun σ H Q q => tF_tN q
/-- [e] -/
def one1 : D → Option D := fun d => some (.list [d])
theorem fE_one {e : Expr} {pos : Pos} {f : EF} (h : PE X e (tF f)) (he : starEach (e :: []) X.env = (false, eval e X.env) :: starEach [] X.env := by rfl) : PE X (.List [e] pos) (tF (e1 one1 f)) := (pe_lst (pa_cons h pa_nil he)).wk fun σ H Q q => by
  obtain ⟨M0, H0, ρ, d, R, e, q⟩ := q
  obtain ⟨d1, e1, e⟩ := some_bind e
  cases e
  refine ⟨M0, H0, ρ, d1, R, e1, fun v H1 L s1 r1 => ⟨by show 1 ≤ sizeLine; exact sz (by decide), fun p np => q _ _ (p :: (L ++ [])) (s1.trans (smN np)) (.node ?_ upd_same (by show 1 ≤ sizeLine; exact sz (by decide)) (.cons (r1.mono fun a ha o e => (smN np) _ _ e) .nil fun a _ h => nomatch h) ?_)⟩⟩
  · cases z : H p with
    | none => rfl
    | some o => rw [s1 _ _ z] at np; cases np
  · intro hp
    rw [List.append_nil] at hp
    obtain ⟨_, vs, ev⟩ := r1.new p hp
    rw [np] at ev
    cases ev
/-- both lists behind one another -/
def catF : D → D → Option D
  | .list a, .list b => if a.length + b.length ≤ sizeLine then some (.list (a ++ b)) else none
  | _, _ => none
theorem fE_cat {a b : Expr} {pos : Pos} {f g : EF} (ha : PE X a (tF f)) (hb : PE X b (tF g)) : PE X (.BinOp a .Add b pos) (tF (e2 catF f g)) := (pe_op op_cat ha hb).wk fun σ H Q q => by
  obtain ⟨M0, H0, ρ, d, R, e, q⟩ := q
  obtain ⟨d1, e1, e⟩ := some_bind e
  obtain ⟨d2, e2, e⟩ := some_bind e
  refine ⟨M0, H0, ρ, d1, R, e1, fun v H1 L s1 r1 => ⟨M0, H0, ρ, d2, R.mono s1, e2, fun u H2 L2 s2 r2 => ?_⟩⟩
  cases r1 with
  | leaf h =>
    cases d1 <;> first | (cases e; done) | exact (cD_nl h).elim
  | @node p vs ds L n ep l h m =>
    cases r2 with
    | leaf h2 =>
      cases d2 <;> first | (cases e; done) | exact (cD_nl h2).elim
    | @node p2 vs2 ds2 L2 n2 ep2 l2 h2 m2 =>
      obtain ⟨lc, rfl⟩ := iteS e
      have dis : ∀ a ∈ L, a ∉ L2 := fun a ha hb => by
        obtain ⟨_, ws, ew⟩ := h.new a ha
        have z := (h2.new a hb).1
        rw [ew] at z
        cases z
      refine ⟨p, p2, vs, vs2, rfl, rfl, s2 _ _ ep, ep2, by rw [h.len, h2.len]; exact lc, fun p3 np => q _ _ (p3 :: (L ++ L2)) ((s1.trans s2).trans (smN np)) (.node ?_ upd_same (by rw [List.length_append, h.len, h2.len]; exact lc) (((h.mono fun a _ o e => s2 _ _ e).app (h2.anti s1) dis).mono fun a _ o e => (smN np) _ _ e) ?_)⟩
      · cases z : H p3 with
        | none => rfl
        | some o => rw [(s1.trans s2) _ _ z] at np; cases np
      · intro hp
        rcases List.mem_append.mp hp with hp | hp
        · obtain ⟨_, ws, ew⟩ := h.new p3 hp
          rw [s2 _ _ ew] at np
          cases np
        · obtain ⟨_, ws, ew⟩ := h2.new p3 hp
          rw [ew] at np
          cases np
end
/-- a comprehension of new lists -/
theorem lcF {K : PySem.W.Frag} {pr : Bool} {M0 : Addr → Prop} {H0 H1 : Hp} {σ : L2.St} {ρ : Rho} {J : It} {items res : List D} {p : Pat} {c : Rho → Option Bool} {f : EF} {vs : List Nat} {D : Addr} {Qd : Hp → Prop}
    (R : Rs M0 H0 H1 σ ρ) (dw : ∀ M', (∀ a, M' a → Mu true M0 σ ρ a ∨ H1 a = none) → DW pr M' H1 J items) (hD : H1 D = none) (hp : p.fits pr = true) (hs : ∀ j, j ∈ slP p → j ∈ vs) (e : lcGo p c f (wipeR (shutR true ρ) vs) items = some res)
    (q : ∀ H acc L, Same H1 H → H D = some (.lst acc) → acc.length ≤ sizeLine → FzAll H1 H acc res L → D ∉ L → Qd H) :
    ∃ W : Nat → Nat → Hp → Prop, (∃ m, W 0 m (upd H1 D (.lst []))) ∧ ∀ i m H, W i m H →
      (J.stop i H ∧ Qd H) ∨ (J.go i H ∧ ∃ Nx : Hp → Prop, (∀ H', Nx H' → ∃ m', m' < m ∧ W (i + 1) m' H') ∧ ∀ x H', J.yld i H x H' → gP K p x (wipe σ vs) H' fun σ2 H2 => wipe σ2 vs = wipe σ vs ∧ tT c σ2 H2 fun b H3 =>
        if b = true then tF f σ2 H3 fun y H4 => ∃ acc, H4 D = some (.lst acc) ∧ acc.length < sizeLine ∧ Nx (upd H4 D (.lst (acc ++ [y]))) else Nx H3) := by
  have dw := dw (Mi true M0 σ ρ D) fun a m => m.elim .inl fun z => .inr (by rw [z]; exact hD)
  have sz := dw.sz
  obtain ⟨G, Y, W, hG, hY⟩ := dw.ex
  refine lc_it W (fun i H => Same H1 H ∧ ∃ acc done rest L, H D = some (.lst acc) ∧ acc.length ≤ i ∧ FzAll H1 H acc done L ∧ D ∉ L ∧ lcGo p c f (wipeR (shutR true ρ) vs) (items.drop i) = some rest ∧ done ++ rest = res) ⟨smN hD, [], [], res, [], upd_same, Nat.le_refl _, .nil, by simp, e, rfl⟩ (fun i H hi h => hG H (.of h.1)) (fun i v H H' hi h y => ?_) (fun H h => ?_)
  · obtain ⟨sm, acc, done, rest, L, eD, la, ra, nD, er, et⟩ := h
    obtain ⟨d, ed, s2, rv⟩ := hY i v H H' (.of sm) y
    rw [drop_at ed] at er
    unfold lcGo at er
    obtain ⟨ρ1, e1, er⟩ := some_bind er
    obtain ⟨b, eb, er⟩ := some_bind er
    have Rin := R.inner (μ := true) hD (sm.trans s2) (s2 _ _ eD) vs
    refine bindP.ok (pr := pr) Rin ?_ hp e1 fun σ2 R2 B2 => ⟨wipe_eq B2.oth B2.len hs, _, _, ρ1, b, R2, eb, fun H3 s3 => ?_⟩
    · rcases rv with rv | ⟨zp, a, xs, ds, z1, z2, z3, z4⟩
      · exact .inl (rv.reM fun a m => .inl (Mi.noOwn a m))
      · exact .inr ⟨zp, a, xs, ds, z1, z2, z3, z4.reM fun a m => .inl (Mi.noOwn a m)⟩
    have s13 := (sm.trans s2).trans s3
    cases b with
    | true =>
      obtain ⟨dv, edv, er⟩ := some_bind (show (f ρ1).bind _ = some rest from er)
      obtain ⟨r2, er2, rfl⟩ := some_map er
      refine ⟨_, _, ρ1, dv, R2.mono s3, edv, fun y H4 L4 s4 r4 => ?_⟩
      have s14 := s13.trans s4
      have eD4 := (s2.trans (s3.trans s4)) _ _ eD
      have eD3 := (s2.trans s3) _ _ eD
      have n4 : D ∉ L4 := fun h => by
        have := (r4.new D h).1
        rw [eD3] at this
        cases this
      have kp : ∀ a, a ≠ D → ∀ o, H4 a = some o → upd H4 D (.lst (acc ++ [y])) a = some o := fun a n o e => by
        rw [upd_ne n]
        exact e
      have dis : ∀ a ∈ L, a ∉ L4 := fun a ha hb => by
        obtain ⟨_, ws, ew⟩ := ra.new a ha
        have z := (r4.new a hb).1
        rw [(s2.trans s3) _ _ ew] at z
        cases z
      refine ⟨acc, eD4, by omega, fun q o e => ?_, acc ++ [y], done ++ [dv], r2, L ++ (L4 ++ []), upd_same, by rw [List.length_append]; simp; omega, ?_, ?_, er2, by rw [← et, List.append_assoc]; rfl⟩
      · rw [upd_ne (ne_of_none e hD)]
        exact s14 _ _ e
      · refine (ra.mono fun a ha o e => kp a (fun z => nD (z ▸ ha)) o ((s2.trans (s3.trans s4)) _ _ e)).app (.cons ((r4.anti s13).mono fun a ha o e => kp a (fun z => n4 (z ▸ ha)) o e) .nil fun a _ h => nomatch h) ?_
        rw [List.append_nil]
        exact dis
      · rw [List.append_nil]
        intro h
        rcases List.mem_append.mp h with h | h
        · exact nD h
        · exact n4 h
    | false =>
      exact ⟨s13, acc, done, rest, L, (s2.trans s3) _ _ eD, by omega, ra.mono (fun a _ o e => (s2.trans s3) _ _ e), nD, er, et⟩
  · obtain ⟨sm, acc, done, rest, L, eD, la, ra, nD, er, et⟩ := h
    rw [List.drop_length] at er
    cases er
    rw [List.append_nil] at et
    subst et
    exact q H acc L sm eD (by omega) ra nD
section
variable {X : Cx} {K : PySem.W.Frag}
theorem fLc {it : Rho → Option (List D)} {p : Pat} {c : Rho → Option Bool} {f : EF} {vs : List Nat} {pr : Bool} (hp : p.fits pr = true) (hs : ∀ j, j ∈ slP p → j ∈ vs) {σ : L2.St} {H : Hp} {Q : VK} (q : tF (eLc true vs it p c f) σ H Q) : tLc (iD true pr it) (gP K p) (tT c) (tF f) vs σ H Q := by
  obtain ⟨M0, H0, ρ, d, R, e, q⟩ := q
  obtain ⟨items, ei, e⟩ := some_bind e
  obtain ⟨res, er, rfl⟩ := some_map e
  refine ⟨M0, H0, ρ, items, R, ei, fun J H1 s1 dw D hD => lcF (R.mono s1) dw hD hp hs er fun H2 acc L s2 eD la ra nD => q _ H2 (D :: L) (s1.trans s2) (.node ?_ eD la (ra.anti s1) nD)⟩
  cases z : H D with
  | none => rfl
  | some o => rw [s1 _ _ z] at hD; cases hD
theorem fE_lc {e : Expr} {it : Rho → Option (List D)} {p : Pat} {c : Rho → Option Bool} {f : EF} {vs : List Nat} {pr : Bool} (h : PE X e (tLc (iD true pr it) (gP K p) (tT c) (tF f) vs)) (hp : p.fits pr = true := by rfl) (hs : ∀ j, j ∈ slP p → j ∈ vs := by decide) : PE X e (tF (eLc true vs it p c f)) := h.wk fun _ _ _ q => fLc hp hs q
/-- a comprehension of leaves -/
theorem fE_lcN {e : Expr} {it : Rho → Option (List D)} {p : Pat} {c : Rho → Option Bool} {f : EF} {vs : List Nat} {μi pr : Bool} (h : PE X e (tLc (iD true pr it) (gP K p) (tT c) (tD μi f) vs)) (hp : p.fits pr = true := by rfl) (hs : ∀ j, j ∈ slP p → j ∈ vs := by decide) : PE X e (tF (eFl (eLc true vs it p c f))) := h.wk fun _ _ _ q => nLc hp hs (tF_tN q)
end
/-! ### stretches between changes -/
theorem Rs.noOwn {M : Addr → Prop} {H : Hp} {σ : L2.St} {ρ : Rho} (R : Rs M H H σ ρ) : ∀ a, Mu true M σ ρ a → M a := fun a m => by
  rcases m with m | ⟨_, i, ds, e, _⟩
  · exact m
  · obtain ⟨p, vs, _, b, c, _⟩ := R.own i ds e
    rw [c] at b
    cases b
theorem Rs.base {M : Addr → Prop} {H H' : Hp} {σ : L2.St} {ρ : Rho} (R : Rs M H H' σ ρ) (no : ∀ (i : Nat) (ds : List D), ρ[i]? ≠ some (some (.own ds))) : Rs M H' H' σ ρ where
  sm := Same.refl _
  dom := R.dom.mono R.sm
  len := R.len
  dat := R.dat
  own := fun i ds e => (no i ds e).elim
  raw := R.raw
  inj := fun i j a b p e => (no i a e).elim
def noO (ρ : Rho) : Bool := ρ.all fun x => match x with
  | some (.own _) => false
  | _ => true
theorem noO.ok {ρ : Rho} (h : noO ρ = true) : ∀ (i : Nat) (ds : List D), ρ[i]? ≠ some (some (.own ds)) := fun i ds e => by
  have := List.all_eq_true.mp h _ (List.mem_of_getElem? e)
  cases this
/-- a statement without changes -/
theorem tS_nx {M : Addr → Prop} {H : Hp} {σ : L2.St} {ρ ρ' : Rho} {f : Rho → Option Out} {Dn : Ends} (R : Rs M H H σ ρ) (e : f ρ = some (.nx ρ')) (no : noO ρ' = true) (k : ∀ σ' H', Same H H' → Rs M H' H' σ' ρ' → Dn.nx σ' H') : tS f Dn σ H :=
  ⟨M, H, ρ, .nx ρ', R, e, fun σ' H' R' st => k σ' H' R'.sm (R'.base (noO.ok no))⟩
theorem tS_rt {M : Addr → Prop} {H : Hp} {σ : L2.St} {ρ : Rho} {d : D} {f : Rho → Option Out} {Dn : Ends} (R : Rs M H H σ ρ) (e : f ρ = some (.rt d)) (k : ∀ v H', Same H H' → Rp M H' v d → Dn.rt v H') : tS f Dn σ H :=
  ⟨M, H, ρ, .rt d, R, e, fun v H' s r => k v H' s r⟩
theorem tD_r {M : Addr → Prop} {H : Hp} {σ : L2.St} {ρ : Rho} {d : D} {f : EF} {μ : Bool} {Q : VK} (R : Rs M H H σ ρ) (e : f ρ = some d) (k : ∀ v H', Same H H' → Rp M H' v d → Q v H') : tD μ f σ H Q :=
  ⟨M, H, ρ, d, R, e, fun v H' s r => k v H' s (r.reM fun a m => .inl (.inl m))⟩
theorem tT_r {M : Addr → Prop} {H : Hp} {σ : L2.St} {ρ : Rho} {b : Bool} {f : Rho → Option Bool} {Q : Bool → Hp → Prop} (R : Rs M H H σ ρ) (e : f ρ = some b) (k : ∀ H', Same H H' → Q b H') : tT f σ H Q :=
  ⟨M, H, ρ, b, R, e, k⟩
theorem tF_r {M : Addr → Prop} {H : Hp} {σ : L2.St} {ρ : Rho} {d : D} {f : EF} {Q : VK} (R : Rs M H H σ ρ) (e : f ρ = some d) (k : ∀ v H' L, Same H H' → Fz H H' v d L → Q v H') : tF f σ H Q := ⟨M, H, ρ, d, R, e, k⟩
theorem Rs.up1 {M : Addr → Prop} {H H' : Hp} {σ : L2.St} {ρ : Rho} (R : Rs M H H σ ρ) (s : Same H H') : Rs M H' H' σ ρ where
  sm := Same.refl _
  dom := R.dom.mono s
  len := R.len
  dat := (R.mono s).dat
  own := fun i ds e => by
    obtain ⟨p, vs, _, b, c, _⟩ := R.own i ds e
    rw [c] at b
    cases b
  raw := R.raw
  inj := R.inj
/-- behind a change of what is one's own -/
theorem Rs.chg {M : Addr → Prop} {H H' : Hp} {σ : L2.St} {ρ : Rho} (R : Rs M H H σ ρ) (k : KpM M H H') (al : ∀ a, M a → H' a ≠ none) : Rs M H' H' σ ρ where
  sm := Same.refl _
  dom := al
  len := R.len
  dat := fun i d e => by
    obtain ⟨v, a, b⟩ := R.dat i d e
    exact ⟨v, a, (b.reM fun a m => .inl (.inl m)).mono k |>.reM fun a m => .inl (R.noOwn a m)⟩
  own := fun i ds e => by
    obtain ⟨p, vs, _, b, c, _⟩ := R.own i ds e
    rw [c] at b
    cases b
  raw := R.raw
  inj := R.inj
/-- what is new becomes one's own -/
theorem Rs.grow {M : Addr → Prop} {H H' : Hp} {σ : L2.St} {ρ : Rho} {L : List Addr} {i : Nat} {p : Addr} (R : Rs M H H σ ρ) (s : Same H H') (hL : ∀ a ∈ L, H a = none ∧ H' a ≠ none) : Rs (fun a => M a ∨ a ∈ L) H' H' (σ.set i (some (.ref p))) (ρ.set i (some (.raw (.ref p)))) := by
  have nO : ∀ (j : Nat) (ds : List D), (ρ.set i (some (LV.raw (.ref p))))[j]? ≠ some (some (.own ds)) := fun j ds e => by
    rcases set_get e with ⟨_, z⟩ | ⟨_, e⟩
    · cases z
    · obtain ⟨p, vs, _, b, c, _⟩ := R.own j ds e
      rw [c] at b
      cases b
  have mu : ∀ a, Mu true (fun a => M a ∨ a ∈ L) (σ.set i (some (.ref p))) (ρ.set i (some (.raw (.ref p)))) a → Mu true M σ ρ a ∨ H a = none := fun a m => by
    rcases m with (m | m) | ⟨_, j, ds, e, _⟩
    · exact .inl (.inl m)
    · exact .inr (hL a m).1
    · exact (nO j ds e).elim
  refine ⟨Same.refl _, fun a m => ?_, by rw [List.length_set, List.length_set]; exact R.len, fun j d e => ?_, fun j ds e => (nO j ds e).elim, fun j v e => ?_, fun j k a b q e => (nO j a e).elim⟩
  · rcases m with m | m
    · exact R.dom.mono s a m
    · exact (hL a m).2
  · rcases set_get e with ⟨_, z⟩ | ⟨n, e⟩
    · cases z
    · obtain ⟨v, a, b⟩ := R.dat j d e
      exact ⟨v, by rw [set_other n]; exact a, (b.reM mu).mono (.of s)⟩
  · rcases set_get e with ⟨rfl, z⟩ | ⟨n, e⟩
    · cases z
      have hl : i < σ.length := by
        have := (List.getElem?_eq_some_iff.mp e).1
        rw [List.length_set, R.len] at this
        exact this
      exact set_same hl
    · rw [set_other n]
      exact R.raw j v e
/-- a for over data whose body changes what is one's own -/
theorem forM {K : PySem.W.Frag} {M : Addr → Prop} {H : Hp} {σ : L2.St} {ρ : Rho} {it : Rho → Option (List D)} {p : Pat} {pr : Bool} {tb : TS} {Dn : Ends} {items : List D} (R : Rs M H H σ ρ) (hp : p.fits pr = true) (ei : it ρ = some items)
    (I : Hp → Nat → L2.St → Hp → Prop) (hk : ∀ H1 i σ' H', I H1 i σ' H' → KpM M H1 H') (h0 : ∀ H1, Same H H1 → I H1 0 σ H1)
    (hs : ∀ H1 (i : Nat) d σ' H', items[i]? = some d → I H1 i σ' H' → ∃ ρ' ρ1, Rs M H' H' σ' ρ' ∧ bindP p d ρ' = some ρ1 ∧ noO ρ1 = true ∧ ∀ σ2 H2, Same H' H2 → Rs M H2 H2 σ2 ρ1 → (∀ j, j ∉ slP p → σ2[j]? = σ'[j]?) → tb { Dn with nx := I H1 (i + 1), ct := I H1 (i + 1), bk := Dn.nx } σ2 H2)
    (hd : ∀ H1 σ' H', I H1 items.length σ' H' → Dn.nx σ' H') : tFor (iD true pr it) (gP K p) tb Dn σ H := by
  refine ⟨M, H, ρ, items, R, ei, fun J H1 s1 dw => ?_⟩
  have dw := dw M fun a m => .inl (.inl m)
  obtain ⟨G, Y, W, hG, hY⟩ := dw.ex
  refine ⟨fun i m σ' H' => i ≤ items.length ∧ m = items.length - i ∧ I H1 i σ' H', ⟨_, Nat.zero_le _, rfl, h0 H1 s1⟩, ?_⟩
  rintro i m σ' H' ⟨hi, rfl, inv⟩
  have kp := hk H1 i σ' H' inv
  by_cases hlt : i < items.length
  · refine .inr ⟨W.goes i H' hlt (hG _ kp), fun σ3 H3 => I H1 (i + 1) σ3 H3, fun σ3 H3 h => ⟨items.length - (i + 1), by omega, hlt, rfl, h⟩, fun x Hb y => ?_⟩
    obtain ⟨d, ed, s2, rv⟩ := hY i x H' Hb kp (W.yields i H' x Hb hlt (hG _ kp) y)
    obtain ⟨ρ', ρ1, R', e1, no, k⟩ := hs H1 i d σ' H' ed inv
    refine bindP.ok (pr := pr) (R'.up1 s2) ?_ hp e1 fun σ2 R2 B2 => k σ2 Hb s2 (R2.base (noO.ok no)) B2.oth
    rcases rv with rv | ⟨zp, a, xs, ds, z1, z2, z3, z4⟩
    · exact .inl (rv.reM fun a m => .inl ((R'.up1 s2).noOwn a m))
    · exact .inr ⟨zp, a, xs, ds, z1, z2, z3, z4.reM fun a m => .inl ((R'.up1 s2).noOwn a m)⟩
  · have : i = items.length := by omega
    subst this
    exact .inl ⟨W.stops H' (hG _ kp), hd H1 σ' H' inv⟩
end Dl
namespace Dl
open PySem PySem.Spec PyProof.Rows L2 Rt
/-! ### sets of small numbers as the bits of a number -/
def msk (l g : Nat) : Nat := (2 ^ (g + 1 - l) - 1) * 2 ^ l
theorem msk_bit (l g i : Nat) : (msk l g).testBit i = (decide (l ≤ i) && decide (i ≤ g)) := by
  unfold msk
  rw [Nat.testBit_mul_two_pow, Nat.testBit_two_pow_sub_one, Bool.eq_iff_iff]
  simp only [Bool.and_eq_true, decide_eq_true_eq]
  omega
theorem msk_int {l g : Nat} (h : l ≤ g + 1) : ((msk l g : Nat) : Int) = (2 : Int) ^ (g + 1) - 2 ^ l := by
  obtain ⟨k, hk⟩ : ∃ k, g + 1 = k + l := ⟨g + 1 - l, by omega⟩
  unfold msk
  rw [show g + 1 - l = k by omega, hk, Int.pow_add]
  have hp : 0 < 2 ^ k := Nat.two_pow_pos k
  rw [Int.natCast_mul, Int.natCast_sub hp, Int.natCast_pow, Int.natCast_pow, Int.sub_mul]
  simp
/-- the bits of the one that the other hasn't -/
def ldf (n o : Nat) : Nat := n ^^^ (n &&& o)
theorem ldf_bit (n o i : Nat) : (ldf n o).testBit i = (n.testBit i && !o.testBit i) := by
  unfold ldf
  rw [Nat.testBit_xor, Nat.testBit_and]
  cases n.testBit i <;> cases o.testBit i <;> rfl
theorem and_nat (a b : Nat) : Builtin.bitAnd (a : Int) (b : Int) = ((a &&& b : Nat) : Int) := by
  rw [bitAnd_pp (Int.natCast_nonneg _) (Int.natCast_nonneg _), Int.toNat_natCast, Int.toNat_natCast]
theorem or_nat (a b : Nat) : Builtin.bitOr (a : Int) (b : Int) = ((a ||| b : Nat) : Int) := by
  rw [Bits.bitOr_pp (Int.natCast_nonneg _) (Int.natCast_nonneg _), Int.toNat_natCast, Int.toNat_natCast]
theorem ldf_int (n o : Nat) : Builtin.bitAnd (n : Int) (Builtin.bitNot (o : Int)) = ((ldf n o : Nat) : Int) := by
  rw [bitAnd_not, and_nat]
  unfold ldf
  have e := Bits.nat_xor_add_and n (n &&& o)
  rw [← Nat.and_assoc, Nat.and_self] at e
  omega
/-- the number of the last bit, and one more -/
def nbt (b : Nat) : Nat := if b = 0 then 0 else b.log2 + 1
theorem nbt_int (b : Nat) : Builtin.Int.intBits (b : Int) = nbt b := by
  unfold Builtin.Int.intBits nbt
  by_cases h : b = 0
  · subst h; rfl
  · rw [if_neg (by simpa using h), if_neg h, Int.natAbs_natCast]
theorem nbt_lt {b i : Nat} (h : b.testBit i = true) : i < nbt b := by
  unfold nbt
  have hb : b ≠ 0 := fun e => by subst e; simp at h
  rw [if_neg hb]
  by_cases q : i < b.log2 + 1
  · exact q
  · exfalso
    have : b.testBit i = false := Nat.testBit_lt_two_pow (Nat.lt_of_lt_of_le Nat.lt_log2_self (Nat.pow_le_pow_right (by decide) (by omega)))
    rw [this] at h
    cases h
theorem nbt_le {b k : Nat} (h : b < 2 ^ k) : nbt b ≤ k := by
  unfold nbt
  by_cases e : b = 0
  · rw [if_pos e]; exact Nat.zero_le _
  · rw [if_neg e]
    exact (Nat.log2_lt e).mpr h
/-- the ages of a set, rising -/
def ags (b : Nat) : List Nat := (List.range (nbt b)).filter fun i => b.testBit i
theorem ags_mem {b i : Nat} : i ∈ ags b ↔ b.testBit i = true := by
  unfold ags
  rw [List.mem_filter, List.mem_range]
  exact ⟨fun h => h.2, fun h => ⟨nbt_lt h, h⟩⟩
/-- the least of a set that isn't empty -/
def lowB : Nat → Nat → Nat
  | 0, _ => 0
  | k + 1, b => if b % 2 = 1 then 0 else lowB k (b / 2) + 1
def low (b : Nat) : Nat := lowB b b
theorem lowB_sub : ∀ (k b : Nat), b ≠ 0 → b ≤ k → b - (b &&& (b - 1)) = 2 ^ lowB k b
  | 0, b, h, hk => by omega
  | k + 1, b, h, hk => by
    unfold lowB
    by_cases ho : b % 2 = 1
    · rw [if_pos ho]
      have e : b &&& (b - 1) = b - 1 := by
        apply Nat.eq_of_testBit_eq
        intro i
        rw [Nat.testBit_and]
        cases i with
        | zero => rw [Nat.testBit_zero, Nat.testBit_zero, decide_eq_true ho, Bool.true_and]
        | succ i =>
          rw [Nat.testBit_succ, Nat.testBit_succ, show (b - 1) / 2 = b / 2 by omega, Bool.and_self]
      rw [e]
      omega
    · rw [if_neg ho]
      have ih := lowB_sub k (b / 2) (by omega) (by omega)
      have e : b &&& (b - 1) = 2 * ((b / 2) &&& (b / 2 - 1)) := by
        apply Nat.eq_of_testBit_eq
        intro i
        rw [Nat.testBit_and]
        cases i with
        | zero =>
          rw [Nat.testBit_zero, Nat.testBit_zero, Nat.testBit_zero, decide_eq_false ho, Bool.false_and]
          simp
        | succ i =>
          rw [Nat.testBit_succ, Nat.testBit_succ, Nat.testBit_succ, show (b - 1) / 2 = b / 2 - 1 by omega, Nat.mul_div_cancel_left _ (by decide), Nat.testBit_and]
      rw [e, Nat.pow_succ]
      omega
theorem lowB_bit : ∀ (k b : Nat), b ≠ 0 → b ≤ k → b.testBit (lowB k b) = true ∧ ∀ i, b.testBit i = true → lowB k b ≤ i
  | 0, b, h, hk => by omega
  | k + 1, b, h, hk => by
    unfold lowB
    by_cases ho : b % 2 = 1
    · rw [if_pos ho]
      exact ⟨by rw [Nat.testBit_zero]; exact decide_eq_true ho, fun i _ => Nat.zero_le _⟩
    · rw [if_neg ho]
      obtain ⟨h1, h2⟩ := lowB_bit k (b / 2) (by omega) (by omega)
      refine ⟨by rw [Nat.testBit_succ]; exact h1, fun i hi => ?_⟩
      cases i with
      | zero => rw [Nat.testBit_zero] at hi; exact (ho (of_decide_eq_true hi)).elim
      | succ i => rw [Nat.testBit_succ] at hi; exact Nat.succ_le_succ (h2 i hi)
theorem low_bit {b : Nat} (h : b ≠ 0) : b.testBit (low b) = true ∧ ∀ i, b.testBit i = true → low b ≤ i := lowB_bit b b h (Nat.le_refl _)
theorem low_int {b : Nat} (h : b ≠ 0) : Builtin.bitAnd (b : Int) (-(b : Int)) = ((2 ^ low b : Nat) : Int) := by
  have e : -(b : Int) = Builtin.bitNot (((b - 1 : Nat)) : Int) := by
    show -(b : Int) = -(((b - 1 : Nat)) : Int) - 1
    omega
  rw [e, bitAnd_not, and_nat]
  have := lowB_sub b b h (Nat.le_refl _)
  have l : b &&& (b - 1) ≤ b := Nat.and_le_left
  unfold low
  omega
theorem nbt_pow (k : Nat) : nbt (2 ^ k) = k + 1 := by
  unfold nbt
  rw [if_neg (Nat.pos_iff_ne_zero.mp (Nat.two_pow_pos k)), Nat.log2_two_pow]
theorem hi_bit {b : Nat} (h : b ≠ 0) : b.testBit b.log2 = true ∧ ∀ i, b.testBit i = true → i ≤ b.log2 := ⟨Nat.testBit_log2 h, fun i hi => by
  have := nbt_lt hi
  unfold nbt at this
  rw [if_neg h] at this
  omega⟩
theorem bit_lt {b k : Nat} : b < 2 ^ k ↔ ∀ i, b.testBit i = true → i < k := by
  constructor
  · intro h i hi
    by_cases q : i < k
    · exact q
    · have e : b.testBit i = false := Nat.testBit_lt_two_pow (Nat.lt_of_lt_of_le h (Nat.pow_le_pow_right (by decide) (by omega)))
      rw [e] at hi
      cases hi
  · intro h
    refine Nat.lt_pow_two_of_testBit b fun i hi => ?_
    cases z : b.testBit i with
    | false => rfl
    | true =>
      have := h i z
      omega
theorem bit_z {b : Nat} : b = 0 ↔ ∀ i, b.testBit i = false := ⟨fun h i => by subst h; simp, fun h => Nat.eq_of_testBit_eq fun i => by rw [h i]; simp⟩
end Dl
namespace Dl
open PySem PySem.Spec PyProof.Rows L2 Rt
/-! ### steps of a reckoning, under names of their own -/
theorem wv_cons {f : EF} {g : Rho → Option (List D)} {ρ : Rho} {d : D} {ds : List D} (h1 : f ρ = some d) (h2 : g ρ = some ds) : aCons f g ρ = some (d :: ds) := by
  unfold aCons
  rw [h1]
  show (g ρ).map _ = _
  rw [h2]
  rfl
theorem wv_e1 {g : D → Option D} {f : EF} {ρ : Rho} {a d : D} (h : f ρ = some a) (hg : g a = some d) : e1 g f ρ = some d := by
  unfold e1
  rw [h]
  exact hg
theorem wv_call1 {g : List D → Option D} {f : Rho → Option (List D)} {ρ : Rho} {ds : List D} {d : D} (hf : f ρ = some ds) (hg : g ds = some d) : eCall g f ρ = some d := by
  unfold eCall
  rw [hf]
  exact hg
theorem wv_lst {g : Rho → Option (List D)} {ρ : Rho} {ds : List D} (h : g ρ = some ds) (hl : ds.length ≤ 1000) : eLst g ρ = some (.list ds) := by
  unfold eLst
  rw [h]
  exact if_pos (sz (by omega))
theorem wv_tup {g : Rho → Option (List D)} {ρ : Rho} {ds : List D} (h : g ρ = some ds) (hl : ds.length ≤ 1000) : eTup g ρ = some (.tuple ds) := by
  unfold eTup
  rw [h]
  exact if_pos (sz (by omega))
theorem wv_skip {c : Rho → Option Bool} {f g : Rho → Option Out} {ρ : Rho} (hc : c ρ = some false) : sSeq (sIf c f sNil) g ρ = g ρ := (ev_if hc).trans rfl
theorem wv_eIf {c : Rho → Option Bool} {f g : EF} {ρ : Rho} {b : Bool} {d : D} (hc : c ρ = some b) (h : (if b = true then f ρ else g ρ) = some d) : eIf c f g ρ = some d := by
  unfold eIf
  rw [hc]
  exact h
theorem wv_tr {f : EF} {ρ : Rho} {d : D} {b : Bool} (h : f ρ = some d) (ht : trD d = some b) : oTr f ρ = some b := by
  unfold oTr
  rw [h]
  exact ht
theorem wv_asgN {p : Pat} {f : EF} {ρ ρ' : Rho} {d : D} (hf : f ρ = some d) (hb : bindP p d ρ = some ρ') : sAsg p f ρ = some (.nx ρ') := by
  unfold sAsg
  rw [hf]
  show (bindP p d ρ).map Out.nx = _
  rw [hb]
  rfl
theorem wv_oAndT {f g : Rho → Option Bool} {ρ : Rho} {b : Bool} (h1 : f ρ = some true) (h2 : g ρ = some b) : oAnd f g ρ = some b := (ev_oAnd h1).trans h2
theorem wv_oAndF {f g : Rho → Option Bool} {ρ : Rho} (h1 : f ρ = some false) : oAnd f g ρ = some false := (ev_oAnd h1).trans rfl
/-- a comprehension over a Lean list, whatever its target -/
theorem wv_lcG {p : Pat} {f : EF} {ρ : Rho} {α : Type} {e t : α → D} : ∀ (xs : List α), (∀ x ∈ xs, ∃ ρ1, bindP p (e x) ρ = some ρ1 ∧ f ρ1 = some (t x)) → lcGo p oYes f ρ (xs.map e) = some (xs.map t)
  | [], _ => rfl
  | x :: xs, h => by
    obtain ⟨ρ1, e1, e2⟩ := h x (by simp)
    show (bindP p (e x) ρ).bind _ = _
    rw [e1]
    show (f ρ1).bind _ = _
    rw [e2]
    show (lcGo _ _ _ _ _).map _ = _
    rw [wv_lcG xs fun y hy => h y (by simp [hy])]
    rfl
/-- a for by an invariant over what is left -/
theorem wv_forI {α : Type} {p : Pat} {body : Rho → Option Out} {e : α → D} (I : List α → Rho → Prop) (hs : ∀ x xs ρ, I (x :: xs) ρ → ∃ ρ1 ρ2, bindP p (e x) ρ = some ρ1 ∧ body ρ1 = some (.nx ρ2) ∧ I xs ρ2) : ∀ (xs : List α) (ρ : Rho), I xs ρ → ∃ ρ', forGo p body (xs.map e) ρ = some (.nx ρ') ∧ I [] ρ'
  | [], ρ, i => ⟨ρ, rfl, i⟩
  | x :: xs, ρ, i => by
    obtain ⟨ρ1, ρ2, e1, e2, i2⟩ := hs x xs ρ i
    obtain ⟨ρ', e3, i3⟩ := wv_forI I hs xs ρ2 i2
    exact ⟨ρ', (ev_forC e1 e2).trans e3, i3⟩
/-- the pairs of enumerate -/
def wen {α : Type} : Nat → List α → List (Nat × α)
  | _, [] => []
  | j, x :: xs => (j, x) :: wen (j + 1) xs
theorem wen_go {α : Type} {f : α → D} : ∀ (j : Nat) (xs : List α), enGo j (xs.map f) = (wen j xs).map fun z => .tuple [.int (z.1 : Nat), f z.2]
  | _, [] => rfl
  | j, x :: xs => by
    show PyData.tuple [.int (j : Nat), f x] :: enGo (j + 1) (xs.map f) = _
    rw [wen_go (j + 1) xs]
    rfl
theorem wen_get {α : Type} : ∀ {j : Nat} {xs : List α} {i : Nat} {x : α}, (i, x) ∈ wen j xs → j ≤ i ∧ xs[i - j]? = some x
  | j, [], i, x, h => nomatch h
  | j, y :: ys, i, x, h => by
    rcases List.mem_cons.mp (show (i, x) ∈ (j, y) :: wen (j + 1) ys from h) with h | h
    · cases h
      exact ⟨Nat.le_refl _, by rw [Nat.sub_self]; rfl⟩
    · obtain ⟨h1, h2⟩ := wen_get h
      exact ⟨by omega, by rw [show i - j = (i - (j + 1)) + 1 by omega]; exact h2⟩
theorem wen_mem {α : Type} : ∀ {j : Nat} {xs : List α} {i : Nat} {x : α}, xs[i]? = some x → (j + i, x) ∈ wen j xs
  | j, [], i, x, h => nomatch h
  | j, y :: ys, 0, x, h => by
    cases h
    exact List.mem_cons_self ..
  | j, y :: ys, i + 1, x, h => by
    have := wen_mem (j := j + 1) (xs := ys) (i := i) (x := x) h
    rw [show j + (i + 1) = j + 1 + i by omega]
    exact List.mem_cons_of_mem _ this
end Dl
namespace Dl
open PySem PySem.Spec PyProof.Rows L2 Rt
structure ItOk (X : Wd) (q : Pt) : Prop where
  k : q.k ∈ X.ks
  l0 : 0 ≤ q.l
  lg : q.l ≤ q.g
  g1 : q.g ≤ 60
structure WsOk (X : Wd) (ps : List Pt) : Prop where
  x : X.ok
  n1 : 1 ≤ ps.length
  n4 : ps.length ≤ 4
  i : ∀ q ∈ ps, ItOk X q
def wsD (ps : List Pt) : D := .tuple (ps.map Pt.d)
structure ItB (zs : List Str) (q : Pt) : Prop where
  k : q.k ∈ zs
  l0 : 0 ≤ q.l
  lg : q.l ≤ q.g
  g1 : q.g ≤ 60
def gItem : GF := gAny 8 (fun ds => ∃ zs : List Str, ds = [.tuple (zs.map .str)] ∧ 1 ≤ zs.length ∧ zs.length ≤ 4) (fun ds d => ∃ (zs : List Str) (q : Pt), ds = [.tuple (zs.map .str)] ∧ d = q.d ∧ ItB zs q)
def gWish : GF := gAny 40 (fun ds => ∃ X : Wd, ds = [X.d] ∧ X.ok) (fun ds d => ∃ (X : Wd) (ps : List Pt), ds = [X.d] ∧ d = wsD ps ∧ WsOk X ps)
section
variable {P : Program} {w : World} {K : PySem.W.Frag} {mg : Str → Option Value} {base : Heap}
theorem ok_item {f : Addr} {fd : FuncData} (F : Fun K "_law_item" "_law_item" s_law_item f fd) (m_len : mg "len" = none) (m_min : mg "min" = none) (C__law_next : Cl P w K mg base 1 "_law_next" ["_law_drawn", "_law_many"] (spN 1 gNext)) : FnOk P w K mg base CX0 2 f fd ["_law_drawn", "_law_kinds"] (spN 1 gItem) := by
  refine okFnN F sc_law_item rfl fun cdv A outer s H E hr => ⟨_, (nSs_cons (nS_asg (K := K) (p := .nm 2) (ps_set (i := 2) sc_law_item.nd rfl (.inl rfl) (nE_ix (nE_lst (nA_cons (nE_pure (dE_c (μ := true) pe_int)) (nA_cons (nE_draw C__law_next (hr.mono (by omega)) (by rfl) (pv 0) (nA_cons (nE_pure (dE_c (μ := true) pe_int)) nA_nil)) (nA_cons (nE_draw C__law_next (hr.mono (by omega)) (by rfl) (pv 0) (nA_cons (nE_pure (dE_c (μ := true) pe_int)) nA_nil)) (nA_cons (nE_draw C__law_next (hr.mono (by omega)) (by rfl) (pv 0) (nA_cons (nE_pure (dE_c (μ := true) pe_int)) nA_nil)) nA_nil))))) (nE_draw C__law_next (hr.mono (by omega)) (by rfl) (pv 0) (nA_cons (nE_pure (dE_c (μ := true) pe_int)) nA_nil)))))
  (nSs_cons (nS_asg (K := K) (p := .nm 3) (ps_set (i := 3) sc_law_item.nd rfl (.inl rfl) (nE_ix (nE_lst (nA_cons (nE_pure (dE_c (μ := true) pe_int)) (nA_cons (nE_draw C__law_next (hr.mono (by omega)) (by rfl) (pv 0) (nA_cons (nE_pure (dE_c (μ := true) pe_int)) nA_nil)) (nA_cons (nE_draw C__law_next (hr.mono (by omega)) (by rfl) (pv 0) (nA_cons (nE_pure (dE_c (μ := true) pe_int)) nA_nil)) nA_nil)))) (nE_draw C__law_next (hr.mono (by omega)) (by rfl) (pv 0) (nA_cons (nE_pure (dE_c (μ := true) pe_int)) nA_nil)))))
  (nSs_one (nS_ret (ps_ret (nE_tup (nA_cons (nE_ix (nE_pure (dE_var (μ := true) (pv 1))) (nE_draw C__law_next (hr.mono (by omega)) (by rfl) (pv 0) (nA_cons (nE_pure (dE_callB c_len (by rfl) m_len (by decide +kernel) (dA_cons (dE_var (μ := true) (pv 1)) (dA_nil (μ := true))))) nA_nil))) (nA_cons (nE_pure (dE_var (μ := true) (pv 2))) (nA_cons (nE_pure (dE_callB (c_min2 rfl) (by rfl) m_min (by decide +kernel) (dA_cons (dE_c (μ := true) pe_int) (dA_cons (dE_op o_add (dE_var (μ := true) (pv 2)) (dE_var (μ := true) (pv 3))) (dA_nil (μ := true)))))) nA_nil))))))))), fun ds b Q l h => ?_⟩
  obtain ⟨⟨zs, rfl, k1, k4⟩, hb, q⟩ := h
  have kl : (zs.map PyData.str).length = zs.length := List.length_map ..
  refine ⟨.int 0, rfl, wNext (m := 9) rfl rfl (by decide) (by decide) (by omega) fun v1 b1 v10 v11 h1 => wNext (m := 30) rfl rfl (by decide) (by decide) (by omega) fun v2 b2 v20 v21 h2 => wNext (m := 61) rfl rfl (by decide) (by decide) (by omega) fun v0 b0 v00 v01 h0 => ⟨_, rfl, _, rfl, _, rfl, _, rfl, _, rfl, wNext (m := 4) rfl rfl (by decide) (by decide) (by omega) fun v3 b3 v30 v31 h3 => ?_⟩⟩
  obtain ⟨x, ex, xs⟩ := lst4 (a := PyData.int 0) (b := .int v1) (c := .int v2) (d := .int v0) v30 v31
  obtain ⟨lo, rfl, a0, a1⟩ : ∃ a : Int, x = .int a ∧ 0 ≤ a ∧ a ≤ 60 := by
    rcases xs with rfl | rfl | rfl | rfl
    · exact ⟨_, rfl, by decide, by decide⟩
    · exact ⟨_, rfl, by omega, by omega⟩
    · exact ⟨_, rfl, by omega, by omega⟩
    · exact ⟨_, rfl, by omega, by omega⟩
  let R : Option LV → Option LV → Rho := fun x y => [some .pool, some (.dat (.tuple (zs.map .str))), x, y]
  refine ⟨_, ex, R (some (.dat (.int lo))) none, rfl, ?_⟩
  refine ⟨.int 0, rfl, wNext (m := 5) rfl rfl (by decide) (by decide) (by omega) fun v4 b4 v40 v41 h4 => wNext (m := 61) rfl rfl (by decide) (by decide) (by omega) fun v5 b5 v50 v51 h5 => ⟨_, rfl, _, rfl, _, rfl, _, rfl, wNext (m := 3) rfl rfl (by decide) (by decide) (by omega) fun v6 b6 v60 v61 h6 => ?_⟩⟩
  obtain ⟨y, ey, ys⟩ := lst3 (a := PyData.int 0) (b := .int v4) (c := .int v5) v60 v61
  obtain ⟨mo, rfl, g0⟩ : ∃ a : Int, y = .int a ∧ 0 ≤ a := by
    rcases ys with rfl | rfl | rfl
    · exact ⟨_, rfl, by decide⟩
    · exact ⟨_, rfl, v40⟩
    · exact ⟨_, rfl, v50⟩
  refine ⟨_, ey, R (some (.dat (.int lo))) (some (.dat (.int mo))), rfl, ?_⟩
  let hi : Int := if lo + mo < 60 then lo + mo else 60
  refine ⟨.tuple (zs.map .str), rfl, wNext (m := (zs.map PyData.str).length) rfl rfl (by omega) (by omega) (by omega) fun v7 b7 v70 v71 h7 => ?_⟩
  obtain ⟨j, rfl⟩ : ∃ j : Nat, v7 = j := ⟨v7.toNat, by omega⟩
  obtain ⟨z, hzj⟩ : ∃ z, zs[j]? = some z := ⟨_, List.getElem?_eq_getElem (by omega)⟩
  refine ⟨.str z, at_map hzj, .int lo, rfl, .int hi, rfl, _, rfl, _, rfl, _, rfl, _, rfl, ?_⟩
  have hb1 : lo ≤ hi ∧ hi ≤ 60 := by
    show lo ≤ (if lo + mo < 60 then lo + mo else 60) ∧ (if lo + mo < 60 then lo + mo else 60) ≤ 60
    split <;> omega
  exact q _ b7 ⟨zs, ⟨z, lo, hi⟩, rfl, rfl, ⟨List.mem_of_getElem? hzj, a0, hb1.1, hb1.2⟩⟩ (by omega)
theorem ok_wish {f : Addr} {fd : FuncData} (F : Fun K "_law_wish" "_law_wish" s_law_wish f fd) (m_range : mg "range" = none) (m_tuple : mg "tuple" = none) (C__law_next : Cl P w K mg base 1 "_law_next" ["_law_drawn", "_law_many"] (spN 1 gNext)) (C__law_item : Cl P w K mg base 2 "_law_item" ["_law_drawn", "_law_kinds"] (spN 1 gItem)) : FnOk P w K mg base CX0 3 f fd ["_law_drawn", "_law_world_here"] (spN 1 gWish) := by
  refine okFnN F sc_law_wish rfl fun cdv A outer s H E hr => ⟨_, (nSs_one (nS_ret (ps_ret (nE_callTy c_tuple (by rfl) m_tuple (by decide +kernel) (nA_cons (nE_lc (K := K) (p := (.nm 2)) (pe_lc (own := [("_law_k", 2)]) (g := gP K (.nm 2)) rfl sc_law_wish.nd (nI_ran1 (by rfl) m_range (nA_cons (nE_ix (nE_lst (nA_cons (nE_pure (dE_c (μ := true) pe_int)) (nA_cons (nE_op o_add (nE_pure (dE_c (μ := true) pe_int)) (nE_draw C__law_next (hr.mono (by omega)) (by rfl) (pv 0) (nA_cons (nE_pure (dE_c (μ := true) pe_int)) nA_nil))) nA_nil))) (nE_draw C__law_next (hr.mono (by omega)) (by rfl) (pv 0) (nA_cons (nE_pure (dE_c (μ := true) pe_int)) nA_nil))) nA_nil)) (blkOk_by (own := [("_law_k", 2)]) (N := ["_law_drawn", "_law_world_here", "_law_k"]) (sc := defScope s_law_wish) (by decide +kernel)) (fun _ _ _ _ _ => (pg_name (i := 2) sc_law_wish.nd rfl (.inl rfl))) (fun _ _ _ _ _ => nTs_nil) (fun _ _ _ _ _ => (nE_draw C__law_item (hr.mono (by omega)) (by rfl) (pv 0) (nA_cons (nE_pure (dE_ix (dE_var (μ := true) (pv 1)) (dE_c (μ := true) pe_int))) nA_nil))))) nA_nil))))), fun ds b Q l h => ?_⟩
  obtain ⟨⟨X, rfl, hX⟩, hb, q⟩ := h
  have k1 := hX.k1
  have k4 := hX.k4
  refine ⟨.int 1, rfl, .int 1, rfl, wNext (m := 4) rfl rfl (by decide) (by decide) (by omega) fun v1 b1 v10 v11 h1 => ?_⟩
  refine ⟨.int (1 + v1), rfl, _, rfl, _, rfl, _, rfl, wNext (m := 2) rfl rfl (by decide) (by decide) (by omega) fun v2 b2 v20 v21 h2 => ?_⟩
  obtain ⟨c, ec, c1, c4⟩ : ∃ c : Int, ixD (.list [.int 1, .int (1 + v1)]) (.int v2) = some (.int c) ∧ 1 ≤ c ∧ c ≤ 4 := by
    have : v2 = 0 ∨ v2 = 1 := by omega
    rcases this with rfl | rfl
    · exact ⟨1, rfl, by decide, by decide⟩
    · exact ⟨1 + v1, rfl, by omega, by omega⟩
  refine ⟨.int c, ec, _, rfl, rgD 0 c.toNat, ran1_ok (by omega) (by omega), ?_⟩
  have lm : (rgD 0 c.toNat).length = c.toNat := rgD_len _ _
  refine lcN_all 8 (fun d => ∃ q : Pt, d = q.d ∧ ItB X.ks q) (rgD 0 c.toNat) b2 _ (by rw [lm]; omega) (fun x hx b Q hb qq => ?_) (fun ws b4 lw hw h4 => ?_)
  · obtain ⟨i, _, rfl⟩ := List.mem_map.mp hx
    refine ⟨_, rfl, rfl, .tuple (X.ks.map .str), rfl, _, rfl, rfl, ⟨X.ks, rfl, k1, k4⟩, hb, fun d n' ⟨zs', x, e, ed, ok⟩ hn => ?_⟩
    injection e with e _
    cases tup_inj str_i e
    exact qq d n' ⟨x, ed, ok⟩ hn
  obtain ⟨ps, rfl, hP⟩ := cho hw
  rw [lm] at lw h4
  rw [List.length_map] at lw
  exact ⟨_, rfl, _, rfl, q _ b4 ⟨X, ps, rfl, rfl, hX, by omega, by omega, fun q hq => ⟨(hP q hq).k, (hP q hq).l0, (hP q hq).lg, (hP q hq).g1⟩⟩ (by omega)⟩
end
end Dl
namespace Dl
open PySem PySem.Spec PyProof.Rows L2 Rt Dx
/-! ### what is wrong with anything as a wish -/
def kIn (ks : List Str) (d : D) : Bool := (ks.map PyData.str).any fun z => PyData.eqv z d
def intW : D → Int
  | .int i => i
  | _ => 0
def itF (ks : List Str) : D → Option Str
  | .tuple [k, lo, hi] => if kIn ks k = true then (if isFrom 0 60 lo = true then (if isFrom (intW lo) 60 hi = true then none else some (Str.ofString "greatest")) else some (Str.ofString "least")) else some (Str.ofString "kind")
  | _ => some (Str.ofString "item")
def wD9 : Option Str → D
  | none => .none
  | some z => .str z
def wfGo (ks : List Str) : Nat → List D → Option (Int × Str)
  | _, [] => none
  | i, d :: ds => match itF ks d with
    | some z => some ((i : Nat), z)
    | none => wfGo ks (i + 1) ds
def wfO (ks : List Str) : D → Option (Int × Str)
  | .tuple ds => if 1 ≤ ds.length ∧ ds.length ≤ 4 then wfGo ks 0 ds else some (-1, Str.ofString "wish")
  | _ => some (-1, Str.ofString "wish")
def fD9 : Option (Int × Str) → D
  | none => .none
  | some (i, z) => .tuple [.int i, .str z]
theorem row3 {d : D} (h : isRow 3 3 d = true) : ∃ a b c, d = .tuple [a, b, c] := by
  obtain ⟨ds, rfl⟩ : ∃ ds, d = .tuple ds := by
    cases d <;> first | exact ⟨_, rfl⟩ | cases h
  have h := Bool.and_eq_true_iff.mp (show (decide ((3 : Int) ≤ ds.length) && decide ((ds.length : Int) ≤ 3)) = true from h)
  have h1 := of_decide_eq_true h.1
  have h2 := of_decide_eq_true h.2
  match ds, h1, h2 with
  | [], h1, _ => exact absurd h1 (by decide)
  | [_], h1, _ => exact absurd h1 (by simp only [List.length_cons, List.length_nil]; omega)
  | [_, _], h1, _ => exact absurd h1 (by simp only [List.length_cons, List.length_nil]; omega)
  | [a, b, c], _, _ => exact ⟨a, b, c, rfl⟩
  | _ :: _ :: _ :: _ :: r, _, h2 => exact absurd h2 (by simp only [List.length_cons]; omega)
theorem row3_no {ks : List Str} {d : D} (h : isRow 3 3 d = false) : itF ks d = some (Str.ofString "item") := by
  unfold itF
  split
  · cases h
  · rfl
theorem itF_z {ks : List Str} {d : D} {z : Str} (h : itF ks d = some z) : z = Str.ofString "item" ∨ z = Str.ofString "kind" ∨ z = Str.ofString "least" ∨ z = Str.ofString "greatest" := by
  unfold itF at h
  split at h
  · split at h
    · split at h
      · split at h
        · cases h
        · cases h; exact .inr (.inr (.inr rfl))
      · cases h; exact .inr (.inr (.inl rfl))
    · cases h; exact .inr (.inl rfl)
  · cases h; exact .inl rfl
theorem wfGo_z {ks : List Str} : ∀ {ds : List D} {k : Nat} {i : Int} {z : Str}, wfGo ks k ds = some (i, z) → z = Str.ofString "item" ∨ z = Str.ofString "kind" ∨ z = Str.ofString "least" ∨ z = Str.ofString "greatest"
  | [], _, _, _, h => nomatch h
  | d :: ds, k, i, z, h => by
    unfold wfGo at h
    cases e : itF ks d with
    | some y =>
      rw [e] at h
      cases h
      exact itF_z e
    | none =>
      rw [e] at h
      exact wfGo_z h
theorem wfO_z {ks : List Str} {d : D} {i : Int} {z : Str} (h : wfO ks d = some (i, z)) : PyData.strOk z = true ∧ z.length ≤ sizeLine := by
  have key : z = Str.ofString "wish" ∨ z = Str.ofString "item" ∨ z = Str.ofString "kind" ∨ z = Str.ofString "least" ∨ z = Str.ofString "greatest" := by
    unfold wfO at h
    split at h
    · split at h
      · exact .inr (wfGo_z h)
      · cases h; exact .inl rfl
    · cases h; exact .inl rfl
  rcases key with rfl | rfl | rfl | rfl | rfl <;> exact ⟨by decide +kernel, by decide +kernel⟩
def SIwA : Sem (Wd × D) where
  enc := fun (X, d) => [X.d, d, .int 60]
  ok := fun (X, _) => X.ok
  out := fun (X, d) => wD9 (itF X.ks d)
  fn := fun {x y} _ _ e => by
    obtain ⟨X, d⟩ := x
    obtain ⟨X', d'⟩ := y
    injection e with e1 e
    injection e with e2 e
    cases Wd.inj e1
    cases e2
    rfl
def SWfA : Sem (Wd × D) where
  enc := fun (X, d) => [X.d, d]
  ok := fun (X, _) => X.ok
  out := fun (X, d) => fD9 (wfO X.ks d)
  fn := fun {x y} _ _ e => by
    obtain ⟨X, d⟩ := x
    obtain ⟨X', d'⟩ := y
    injection e with e1 e
    injection e with e2 e
    cases Wd.inj e1
    cases e2
    rfl
theorem ninS_ks {ks : List Str} {d : D} : ninS d (.tuple (ks.map .str)) = some (.bool (!kIn ks d)) := by
  show (if (ks.map PyData.str).all isStrD = true then some (PyData.bool (!(ks.map PyData.str).any fun z => PyData.eqv z d)) else none) = _
  rw [if_pos (by rw [List.all_eq_true]; intro x hx; obtain ⟨z, _, rfl⟩ := List.mem_map.mp hx; rfl)]
  rfl
theorem from_int {lo hi : Int} {d : D} (h : isFrom lo hi d = true) : ∃ i, d = .int i ∧ lo ≤ i ∧ i ≤ hi := by
  cases d with
  | int i =>
    obtain ⟨h1, h2⟩ := Bool.and_eq_true_iff.mp (show (decide (lo ≤ i) && decide (i ≤ hi)) = true from h)
    exact ⟨i, rfl, of_decide_eq_true h1, of_decide_eq_true h2⟩
  | none | bool _ | str _ | list _ | dict _ | tuple _ => cases h
section
variable {P : Program} {w : World} {K : PySem.W.Frag} {mg : Str → Option Value} {base : Heap}
theorem ok_iwA {f : Addr} {fd : FuncData} (F : Fun K "item_word" "item_word" s_item_word f fd) (C_is_row : Cl P w K mg base 1 "is_row" ["thing", "fewest", "most"] (spD 3 sRow)) (C_is_number_from : Cl P w K mg base 2 "is_number_from" ["thing", "low", "high"] (spD 3 sFrom)) : FnOk P w K mg base CX0 3 f fd ["world", "item", "latest"] (spD 3 SIwA.f) := by
  refine okFn F sc_item_word rfl fun cdv A outer s H E hr => ⟨_, (dSs_cons (dS_if (dT_not (dT_val (dE_cl C_is_row (hr.mono (by omega)) (by rfl) (dA_cons (dE_var (μ := true) (pv 1)) (dA_cons (dE_c (μ := true) pe_int) (dA_cons (dE_c (μ := true) pe_int) (dA_nil (μ := true))))))))
    (dSs_one (dS_ret (ps_ret (dE_c (μ := true) pe_str))))
    dSs_nil)
  (dSs_cons (dS_asg (K := K) (p := (.tp (.cons (.nm 3) (.cons (.nm 4) (.cons (.nm 5) .nil))))) (ps_asg (dE_var (μ := true) (pv 1)) (pg_tup (by rfl) (pgs_cons (pg_name (i := 3) sc_item_word.nd rfl (.inl rfl)) (pgs_cons (pg_name (i := 4) sc_item_word.nd rfl (.inl rfl)) (pgs_cons (pg_name (i := 5) sc_item_word.nd rfl (.inl rfl)) pgs_nil))))))
  (dSs_cons (dS_if (dT_cmp (o_ninS (u65 hr)) (dE_var (μ := true) (pv 3)) (dE_ix (dE_var (μ := true) (pv 0)) (dE_c (μ := true) pe_int)) (by rfl))
    (dSs_one (dS_ret (ps_ret (dE_c (μ := true) pe_str))))
    dSs_nil)
  (dSs_cons (dS_if (dT_not (dT_val (dE_cl C_is_number_from (hr.mono (by omega)) (by rfl) (dA_cons (dE_var (μ := true) (pv 4)) (dA_cons (dE_c (μ := true) pe_int) (dA_cons (dE_var (μ := true) (pv 2)) (dA_nil (μ := true))))))))
    (dSs_one (dS_ret (ps_ret (dE_c (μ := true) pe_str))))
    dSs_nil)
  (dSs_cons (dS_if (dT_not (dT_val (dE_cl C_is_number_from (hr.mono (by omega)) (by rfl) (dA_cons (dE_var (μ := true) (pv 5)) (dA_cons (dE_var (μ := true) (pv 4)) (dA_cons (dE_var (μ := true) (pv 2)) (dA_nil (μ := true))))))))
    (dSs_one (dS_ret (ps_ret (dE_c (μ := true) pe_str))))
    dSs_nil)
  (dSs_one (dS_ret (ps_ret (dE_c (μ := true) pe_non))))))))), fun ds d l e => ?_⟩
  obtain ⟨⟨X, x⟩, hX, rfl, rfl⟩ := Sem.get e
  refine ⟨.rt (wD9 (itF X.ks x)), ?_, rfl⟩
  cases h3 : isRow 3 3 x with
  | false =>
    rw [row3_no h3]
    refine (ev_guard (b := true) (ev_not (b := false) (ev_oB (ev_call (ds := [x, .int 3, .int 3]) rfl rfl (congrArg (fun b => some (PyData.bool b)) h3)))) rfl).trans rfl
  | true =>
    obtain ⟨k, lo, hi, rfl⟩ := row3 h3
    refine (wv_skip (ev_not (b := true) (ev_oB (ev_call (ds := [.tuple [k, lo, hi], .int 3, .int 3]) rfl rfl (congrArg (fun b => some (PyData.bool b)) h3))))).trans ?_
    let R : Rho := [some (.dat X.d), some (.dat (.tuple [k, lo, hi])), some (.dat (.int 60)), some (.dat k), some (.dat lo), some (.dat hi)]
    refine (ev_asg (d := .tuple [k, lo, hi]) (ρ' := R) rfl rfl).trans ?_
    refine (ev_guard (b := !kIn X.ks k) (d := S "kind") (ev_oB (ev_e2 (a := k) (b := .tuple (X.ks.map .str)) rfl (ev_e2 (a := X.d) (b := .int 1) rfl rfl rfl) ninS_ks)) rfl).trans ?_
    show _ = some (Out.rt (wD9 (if kIn X.ks k = true then _ else _)))
    cases hk : kIn X.ks k with
    | false => rfl
    | true =>
      rw [if_neg (by decide), if_pos rfl]
      refine (ev_guard (b := !isFrom 0 60 lo) (d := S "least") (ev_not (ev_oB (ev_call (ds := [lo, .int 0, .int 60]) rfl rfl rfl))) rfl).trans ?_
      cases hl : isFrom 0 60 lo with
      | false => rfl
      | true =>
        rw [if_neg (by decide), if_pos rfl]
        obtain ⟨i, rfl, _, _⟩ := from_int hl
        refine (ev_guard (b := !isFrom i 60 hi) (d := S "greatest") (ev_not (ev_oB (ev_call (ds := [hi, .int i, .int 60]) rfl rfl rfl))) rfl).trans ?_
        show _ = some (Out.rt (wD9 (if isFrom i 60 hi = true then _ else _)))
        cases hh : isFrom i 60 hi with
        | false => rfl
        | true => rfl
theorem ok_wfA {f : Addr} {fd : FuncData} {t1 t2 : Tok} (F : Fun K "wishfault" "wishfault" s_wishfault f fd) (m_enumerate : mg "enumerate" = none) (g_ITEMS : mg "ITEMS" = some (.int 4 t1)) (g_LATE : mg "LATE" = some (.int 60 t2)) (C_is_row : Cl P w K mg base 1 "is_row" ["thing", "fewest", "most"] (spD 3 sRow)) (C_item_word : Cl P w K mg base 3 "item_word" ["world", "item", "latest"] (spD 3 SIwA.f)) : FnOk P w K mg base CX0 4 f fd ["world", "thing"] (spD 2 SWfA.f) := by
  refine okFn F sc_wishfault rfl fun cdv A outer s H E hr => ⟨_, (dSs_cons (dS_if (dT_not (dT_val (dE_cl C_is_row (hr.mono (by omega)) (by rfl) (dA_cons (dE_var (μ := true) (pv 1)) (dA_cons (dE_c (μ := true) pe_int) (dA_cons (dE_c (μ := true) (pe_glob (v := .int 4) (by rfl) g_ITEMS ⟨_, rfl⟩)) (dA_nil (μ := true))))))))
    (dSs_one (dS_ret (ps_ret (dE_tup (dA_cons (dE_neg (dE_c (μ := true) pe_int)) (dA_cons (dE_c (μ := true) pe_str) (dA_nil (μ := true))))))))
    dSs_nil)
  (dSs_cons (dS_for (K := K) (p := (.tp (.cons (.nm 2) (.cons (.nm 3) .nil)))) (ps_for PassesOwn.never rfl (dI_enum (by rfl) m_enumerate (dA_cons (dE_var (μ := true) (pv 1)) (dA_nil (μ := true)))) (pg_tup (by rfl) (pgs_cons (pg_name (i := 2) sc_wishfault.nd rfl (.inl rfl)) (pgs_cons (pg_name (i := 3) sc_wishfault.nd rfl (.inl rfl)) pgs_nil)))
    (dSs_cons (dS_asg (K := K) (p := .nm 4) (ps_set (i := 4) sc_wishfault.nd rfl (.inl rfl) (dE_cl C_item_word (hr.mono (by omega)) (by rfl) (dA_cons (dE_var (μ := true) (pv 0)) (dA_cons (dE_var (μ := true) (pv 3)) (dA_cons (dE_c (μ := true) (pe_glob (v := .int 60) (by rfl) g_LATE ⟨_, rfl⟩)) (dA_nil (μ := true))))))))
  (dSs_one (dS_if (dT_cmp o_isnot (dE_var (μ := true) (pv 4)) (dE_c (μ := true) pe_non) (nomark _))
    (dSs_one (dS_ret (ps_ret (dE_tup (dA_cons (dE_var (μ := true) (pv 2)) (dA_cons (dE_var (μ := true) (pv 4)) (dA_nil (μ := true))))))))
    dSs_nil)))))
  (dSs_one (dS_ret (ps_ret (dE_c (μ := true) pe_non)))))), fun ds d l e => ?_⟩
  obtain ⟨⟨X, x⟩, hX, rfl, rfl⟩ := Sem.get e
  have hX : X.ok := hX
  refine ⟨.rt (fD9 (wfO X.ks x)), ?_, rfl⟩
  cases h4 : isRow 1 4 x with
  | false =>
    have : wfO X.ks x = some (-1, Str.ofString "wish") := by
      unfold wfO
      split
      · rename_i ds
        rw [if_neg fun h => ?_]
        have h4 : (decide ((1 : Int) ≤ ds.length) && decide ((ds.length : Int) ≤ 4)) = false := h4
        rw [decide_eq_true (by omega), decide_eq_true (by omega)] at h4
        cases h4
      · rfl
    rw [this]
    exact (ev_guard (b := true) (ev_not (b := false) (ev_oB (ev_call (ds := [x, .int 1, .int 4]) rfl rfl (congrArg (fun b => some (PyData.bool b)) h4)))) rfl).trans rfl
  | true =>
    obtain ⟨xs, rfl⟩ : ∃ xs, x = .tuple xs := by
      cases x <;> first | exact ⟨_, rfl⟩ | cases h4
    obtain ⟨a1, a2⟩ := Bool.and_eq_true_iff.mp (show (decide ((1 : Int) ≤ xs.length) && decide ((xs.length : Int) ≤ 4)) = true from h4)
    have a1 := of_decide_eq_true a1
    have a2 := of_decide_eq_true a2
    refine (wv_skip (ev_not (b := true) (ev_oB (ev_call (ds := [.tuple xs, .int 1, .int 4]) rfl rfl (congrArg (fun b => some (PyData.bool b)) h4))))).trans ?_
    have ew : wfO X.ks (.tuple xs) = wfGo X.ks 0 xs := if_pos ⟨by omega, by omega⟩
    rw [ew]
    let R : Option LV → Option LV → Option LV → Rho := fun a b c => [some (.dat X.d), some (.dat (.tuple xs)), a, b, c]
    have go : ∀ (ds : List D) (k : Nat) (a b c : Option LV), ∃ o, forGo (.tp (.cons (.nm 2) (.cons (.nm 3) .nil))) (sSeq (sAsg (.nm 4) (eCall (gN 3 SIwA.f) (aCons (eVar 0) (aCons (eVar 3) (aCons (eC (.int 60)) aNil))))) (sIf (oB (e2 noND (eVar 4) (eC .none))) (sRet (eTup (aCons (eVar 2) (aCons (eVar 4) aNil)))) sNil)) (enGo k ds) (R a b c) = some o ∧ ((wfGo X.ks k ds = none ∧ ∃ a b c, o = .nx (R a b c)) ∨ ∃ i z, wfGo X.ks k ds = some (i, z) ∧ o = .rt (.tuple [.int i, .str z])) := by
      intro ds
      induction ds with
      | nil => exact fun k a b c => ⟨_, rfl, .inl ⟨rfl, a, b, c, rfl⟩⟩
      | cons d ds ih =>
        intro k a b c
        let R1 : Option LV → Rho := fun c => R (some (.dat (.int (k : Nat)))) (some (.dat d)) c
        have e1 : bindP (.tp (.cons (.nm 2) (.cons (.nm 3) .nil))) (.tuple [.int (k : Nat), d]) (R a b c) = some (R1 c) := rfl
        have e2' := ev_asg (f := eCall (gN 3 SIwA.f) (aCons (eVar 0) (aCons (eVar 3) (aCons (eC (.int 60)) aNil)))) (g := sIf (oB (e2 noND (eVar 4) (eC .none))) (sRet (eTup (aCons (eVar 2) (aCons (eVar 4) aNil)))) sNil) (p := .nm 4) (d := wD9 (itF X.ks d)) (ρ := R1 c) (ρ' := R1 (some (.dat (wD9 (itF X.ks d))))) (ev_call (ds := [X.d, d, .int 60]) rfl rfl (Sem.of (S := SIwA) (x := (X, d)) hX)) rfl
        cases hi : itF X.ks d with
        | some z =>
          rw [hi] at e2'
          refine ⟨.rt (.tuple [.int (k : Nat), .str z]), ?_, .inr ⟨(k : Nat), z, by unfold wfGo; rw [hi], rfl⟩⟩
          refine ev_forR e1 (e2'.trans ?_)
          exact (ev_ifR (ev_oB (ev_e2 (a := .str z) (b := .none) rfl rfl rfl))).trans rfl
        | none =>
          rw [hi] at e2'
          obtain ⟨o, eo, ho⟩ := ih (k + 1) (some (.dat (.int (k : Nat)))) (some (.dat d)) (some (.dat .none))
          refine ⟨o, (ev_forC e1 (e2'.trans ((ev_ifR (ev_oB (ev_e2 (a := .none) (b := .none) rfl rfl rfl))).trans rfl))).trans eo, ?_⟩
          have : wfGo X.ks k (d :: ds) = wfGo X.ks (k + 1) ds := by
            conv => lhs; unfold wfGo
            rw [hi]
          rw [this]
          exact ho
    obtain ⟨o, eo, ho⟩ := go xs 0 none none none
    rcases ho with ⟨h0, a, b, c, rfl⟩ | ⟨i, z, h0, rfl⟩
    · rw [h0]
      exact (ev_seq (ev_forS (items := enGo 0 xs) rfl eo)).trans rfl
    · rw [h0]
      exact ev_seqR (ev_forS (items := enGo 0 xs) rfl eo)
end
end Dl
namespace Dl
open PySem PySem.Spec PyProof.Rows L2 Rt Dx
/-! ### the same, by the law's own look -/
def whB : D → Bool
  | .int _ => true
  | _ => false
def sWho : List D → Option D
  | [d] => some (.bool (whB d))
  | _ => none
def SLok : Sem (List Str × D) where
  enc := fun (ks, d) => [.tuple (ks.map .str), d]
  ok := fun _ => True
  out := fun (ks, d) => fD9 (wfO ks d)
  fn := fun {x y} _ _ e => by
    obtain ⟨ks, d⟩ := x
    obtain ⟨ks', d'⟩ := y
    injection e with e1 e
    injection e with e2 e
    cases tup_inj str_i e1
    cases e2
    rfl
def itL (ks : List Str) (d : D) : Option Str := itF ks d
theorem kIn_str {ks : List Str} {d : D} (h : kIn ks d = true) : ∃ z, d = .str z := by
  obtain ⟨x, hx, e⟩ := List.any_eq_true.mp h
  obtain ⟨z, _, rfl⟩ := List.mem_map.mp hx
  cases d with
  | str y => exact ⟨y, rfl⟩
  | none | bool _ | int _ | list _ | dict _ | tuple _ => cases e
section
variable {P : Program} {w : World} {K : PySem.W.Frag} {mg : Str → Option Value} {base : Heap}
theorem ok_who {f : Addr} {fd : FuncData} (F : Fun K "_law_whole" "_law_whole" s_law_whole f fd) (m_isinstance : mg "isinstance" = none) (m_int : mg "int" = none) (m_bool : mg "bool" = none) : FnOk P w K mg base CX0 1 f fd ["_law_thing"] (spD 1 sWho) := by
  refine okFn F sc_law_whole rfl fun cdv A outer s H E hr => ⟨_, (dSs_one (dS_ret (ps_ret (dE_and (dE_isi (dE_var (μ := true) (pv 0)) (pe_bltn (v := .ty "int") (by rfl) m_int (by decide +kernel) rfl) (by rfl) m_isinstance (by decide +kernel)) (dE_one (dE_not (dE_isi (dE_var (μ := true) (pv 0)) (pe_bltn (v := .ty "bool") (by rfl) m_bool (by decide +kernel) rfl) (by rfl) m_isinstance (by decide +kernel)))))))), fun ds d l e => ?_⟩
  match ds, e with
  | [x], e =>
    cases e
    refine ⟨.rt (.bool (whB x)), ?_, rfl⟩
    cases x <;> rfl
theorem ok_lfrom {f : Addr} {fd : FuncData} (F : Fun K "_law_from" "_law_from" s_law_from f fd) (C__law_whole : Cl P w K mg base 1 "_law_whole" ["_law_thing"] (spD 1 sWho)) : FnOk P w K mg base CX0 2 f fd ["_law_thing", "_law_low", "_law_high"] (spD 3 sFrom) := by
  refine okFn F sc_law_from rfl fun cdv A outer s H E hr => ⟨_, (dSs_one (dS_ret (ps_ret (dE_and (dE_cl C__law_whole (hr.mono (by omega)) (by rfl) (dA_cons (dE_var (μ := true) (pv 0)) (dA_nil (μ := true)))) (dE_one (dE_chain o_le o_le (dE_var (μ := true) (pv 1)) (dE_var (μ := true) (pv 0)) (dE_var (μ := true) (pv 2)))))))), fun ds d l e => ?_⟩
  match ds, e with
  | [x, .int lo, .int hi], e =>
    cases e
    refine ⟨.rt (.bool (isFrom lo hi x)), ?_, rfl⟩
    let ρ : Rho := [some (.dat x), some (.dat (.int lo)), some (.dat (.int hi))]
    refine ev_ret (ev_and (b := whB x) (ev_call (ds := [x]) rfl rfl rfl) (fun h => ?_) (fun h => ?_))
    · cases x with
      | int i =>
        show eChain leD leD (eVar 1) (eVar 0) (eVar 2) ρ = _
        by_cases h : lo ≤ i <;> simp [eChain, eVar, leD, bB, h, ρ, isFrom]
      | none | bool _ | str _ | list _ | dict _ | tuple _ => cases h
    · cases x with
      | int i => cases h
      | none | bool _ | str _ | list _ | dict _ | tuple _ => rfl
end
end Dl
namespace Dl
open PySem PySem.Spec PyProof.Rows L2 Rt Dx
/-! ### a walk that tells at the first turn that has something to tell -/
def fstE (E : Nat → Option D) : Nat → Nat → Option D
  | _, 0 => none
  | j, k + 1 => match E j with
    | some d => some d
    | none => fstE E (j + 1) k
theorem forT9 {p : Pat} {body : Rho → Option Out} {xs : List D} {E : Nat → Option D} (I : Rho → Prop) (hs : ∀ (j : Nat) x ρ, xs[j]? = some x → I ρ → ∃ ρ1, bindP p x ρ = some ρ1 ∧ match E j with | some d => body ρ1 = some (.rt d) | none => ∃ ρ2, body ρ1 = some (.nx ρ2) ∧ I ρ2) : ∀ (k j : Nat) (ρ : Rho), j + k = xs.length → I ρ → ∃ o, forGo p body (xs.drop j) ρ = some o ∧ match fstE E j k with | some d => o = .rt d | none => ∃ ρ', o = .nx ρ' ∧ I ρ'
  | 0, j, ρ, e, i => by
    rw [List.drop_of_length_le (by omega)]
    exact ⟨_, rfl, ρ, rfl, i⟩
  | k + 1, j, ρ, e, i => by
    have hj : j < xs.length := by omega
    obtain ⟨ρ1, e1, h⟩ := hs j xs[j] ρ (List.getElem?_eq_getElem hj) i
    rw [List.drop_eq_getElem_cons hj]
    unfold fstE
    cases hE : E j with
    | some d =>
      rw [hE] at h
      exact ⟨_, ev_forR e1 h, rfl⟩
    | none =>
      rw [hE] at h
      obtain ⟨ρ2, e2, i2⟩ := h
      obtain ⟨o, eo, ho⟩ := forT9 I hs k (j + 1) ρ2 (by omega) i2
      exact ⟨o, (ev_forC e1 e2).trans eo, ho⟩
theorem ev_for9 {it : Rho → Option (List D)} {p : Pat} {body g : Rho → Option Out} {ρ : Rho} {xs : List D} {E : Nat → Option D} {res : Option Out} (I : Rho → Prop) (hit : it ρ = some xs) (h0 : I ρ) (hs : ∀ (j : Nat) x ρ, xs[j]? = some x → I ρ → ∃ ρ1, bindP p x ρ = some ρ1 ∧ match E j with | some d => body ρ1 = some (.rt d) | none => ∃ ρ2, body ρ1 = some (.nx ρ2) ∧ I ρ2) (hd : ∀ d, fstE E 0 xs.length = some d → res = some (.rt d)) (hn : fstE E 0 xs.length = none → ∀ ρ', I ρ' → g ρ' = res) : sSeq (sFor it p body) g ρ = res := by
  obtain ⟨o, eo, ho⟩ := forT9 (body := body) (E := E) I hs xs.length 0 ρ (by omega) h0
  rw [List.drop_zero] at eo
  cases hf : fstE E 0 xs.length with
  | some d =>
    rw [hf] at ho
    have ho : o = .rt d := ho
    subst ho
    rw [hd d hf]
    exact ev_seqR (ev_forS hit eo)
  | none =>
    rw [hf] at ho
    obtain ⟨ρ', eo', i'⟩ := ho
    subst eo'
    exact (ev_seq (ev_forS hit eo)).trans (hn hf ρ' i')
def isStD : D → Bool
  | .str _ => true
  | _ => false
theorem ev_retR {f : EF} {ρ : Rho} {d : D} (h : f ρ = some d) : sRet f ρ = some (.rt d) := by
  unfold sRet
  rw [h]
  rfl
def lkE (ks : List Str) (xs : List D) (j : Nat) : Option D := (xs[j]?).bind fun d => (itF ks d).map fun z => .tuple [.int (j : Nat), .str z]
theorem lkE_go {ks : List Str} {xs : List D} : ∀ (k j : Nat), j + k = xs.length → fstE (lkE ks xs) j k = (wfGo ks j (xs.drop j)).map fun q => .tuple [.int q.1, .str q.2]
  | 0, j, e => by
    rw [List.drop_of_length_le (by omega)]
    rfl
  | k + 1, j, e => by
    have hj : j < xs.length := by omega
    rw [List.drop_eq_getElem_cons hj]
    unfold fstE wfGo
    have : lkE ks xs j = (itF ks xs[j]).map fun z => .tuple [.int (j : Nat), .str z] := by
      unfold lkE
      rw [List.getElem?_eq_getElem hj]
      rfl
    rw [this]
    cases itF ks xs[j] with
    | some z => rfl
    | none => exact lkE_go k (j + 1) (by omega)
section
variable {P : Program} {w : World} {K : PySem.W.Frag} {mg : Str → Option Value} {base : Heap}
theorem ok_look {f : Addr} {fd : FuncData} (F : Fun K "_law_look" "_law_look" s_law_look f fd) (m_isinstance : mg "isinstance" = none) (m_tuple : mg "tuple" = none) (m_str : mg "str" = none) (m_len : mg "len" = none) (m_range : mg "range" = none) (C__law_from : Cl P w K mg base 2 "_law_from" ["_law_thing", "_law_low", "_law_high"] (spD 3 sFrom)) : FnOk P w K mg base CX0 3 f fd ["_law_kinds", "_law_thing"] (spD 2 SLok.f) := by
  refine okFn F sc_law_look rfl fun cdv A outer s H E hr => ⟨_, (dSs_cons (dS_if (PW.pt (dW_or (dT_not (dT_val (dE_isi (dE_var (μ := true) (pv 1)) (pe_bltn (v := .ty "tuple") (by rfl) m_tuple (by decide +kernel) rfl) (by rfl) m_isinstance (by decide +kernel)))) (dW_or1 (dT_not (dT_chain o_le o_le (dE_c (μ := true) pe_int) (dE_callB c_len (by rfl) m_len (by decide +kernel) (dA_cons (dE_var (μ := true) (pv 1)) (dA_nil (μ := true)))) (dE_c (μ := true) pe_int))))))
    (dSs_one (dS_ret (ps_ret (dE_tup (dA_cons (dE_neg (dE_c (μ := true) pe_int)) (dA_cons (dE_c (μ := true) pe_str) (dA_nil (μ := true))))))))
    dSs_nil)
  (dSs_cons (dS_for (K := K) (p := (.nm 2)) (ps_for PassesOwn.never rfl (dI_ran1 (by rfl) m_range (dA_cons (dE_callB c_len (by rfl) m_len (by decide +kernel) (dA_cons (dE_var (μ := true) (pv 1)) (dA_nil (μ := true)))) (dA_nil (μ := true)))) (pg_name (i := 2) sc_law_look.nd rfl (.inl rfl))
    (dSs_cons (dS_asg (K := K) (p := .nm 3) (ps_set (i := 3) sc_law_look.nd rfl (.inl rfl) (dE_ix (dE_var (μ := true) (pv 1)) (dE_var (μ := true) (pv 2)))))
  (dSs_cons (dS_if (PW.pt (dW_or (dT_not (dT_val (dE_isi (dE_var (μ := true) (pv 3)) (pe_bltn (v := .ty "tuple") (by rfl) m_tuple (by decide +kernel) rfl) (by rfl) m_isinstance (by decide +kernel)))) (dW_or1 (dT_cmp (o_ne hr.units) (dE_callB c_len (by rfl) m_len (by decide +kernel) (dA_cons (dE_var (μ := true) (pv 3)) (dA_nil (μ := true)))) (dE_c (μ := true) pe_int) (nomark _)))))
    (dSs_one (dS_ret (ps_ret (dE_tup (dA_cons (dE_var (μ := true) (pv 2)) (dA_cons (dE_c (μ := true) pe_str) (dA_nil (μ := true))))))))
    dSs_nil)
  (dSs_cons (dS_if (PW.pt (dW_or (dT_not (dT_val (dE_isi (dE_ix (dE_var (μ := true) (pv 3)) (dE_c (μ := true) pe_int)) (pe_bltn (v := .ty "str") (by rfl) m_str (by decide +kernel) rfl) (by rfl) m_isinstance (by decide +kernel)))) (dW_or1 (dT_cmp (o_ninS (u65 hr)) (dE_ix (dE_var (μ := true) (pv 3)) (dE_c (μ := true) pe_int)) (dE_var (μ := true) (pv 0)) (by rfl)))))
    (dSs_one (dS_ret (ps_ret (dE_tup (dA_cons (dE_var (μ := true) (pv 2)) (dA_cons (dE_c (μ := true) pe_str) (dA_nil (μ := true))))))))
    dSs_nil)
  (dSs_cons (dS_if (dT_not (dT_val (dE_cl C__law_from (hr.mono (by omega)) (by rfl) (dA_cons (dE_ix (dE_var (μ := true) (pv 3)) (dE_c (μ := true) pe_int)) (dA_cons (dE_c (μ := true) pe_int) (dA_cons (dE_c (μ := true) pe_int) (dA_nil (μ := true))))))))
    (dSs_one (dS_ret (ps_ret (dE_tup (dA_cons (dE_var (μ := true) (pv 2)) (dA_cons (dE_c (μ := true) pe_str) (dA_nil (μ := true))))))))
    dSs_nil)
  (dSs_one (dS_if (dT_not (dT_val (dE_cl C__law_from (hr.mono (by omega)) (by rfl) (dA_cons (dE_ix (dE_var (μ := true) (pv 3)) (dE_c (μ := true) pe_int)) (dA_cons (dE_ix (dE_var (μ := true) (pv 3)) (dE_c (μ := true) pe_int)) (dA_cons (dE_c (μ := true) pe_int) (dA_nil (μ := true))))))))
    (dSs_one (dS_ret (ps_ret (dE_tup (dA_cons (dE_var (μ := true) (pv 2)) (dA_cons (dE_c (μ := true) pe_str) (dA_nil (μ := true))))))))
    dSs_nil))))))))
  (dSs_one (dS_ret (ps_ret (dE_c (μ := true) pe_non)))))), fun ds d l e => ?_⟩
  obtain ⟨⟨ks, x⟩, _, rfl, rfl⟩ := Sem.get e
  refine ⟨.rt (fD9 (wfO ks x)), ?_, rfl⟩
  by_cases ht : ∃ xs, x = .tuple xs
  · obtain ⟨xs, rfl⟩ := ht
    have hc : ∀ ρ : Rho, ρ = [some (.dat (.tuple (ks.map .str))), some (.dat (.tuple xs)), none, none] → (oOr (oNot (oB (Dl.e1 (isTy "tuple") (eVar 1)))) (oNot (oB (eChain leD leD (eC (.int 1)) (eCall lenD (aCons (eVar 1) aNil)) (eC (.int 4)))))) ρ = some (!(decide ((1 : Int) ≤ xs.length) && decide ((xs.length : Int) ≤ 4))) := fun ρ er => by
      subst er
      refine (ev_oOr (b := false) (ev_not (b := true) (ev_oB (ev_e1 (a := .tuple xs) rfl (isi_tuple _))))).trans ((if_neg Bool.false_ne_true).trans ?_)
      refine ev_not (ev_oB ?_)
      show eChain leD leD _ _ _ _ = _
      unfold eChain
      rw [wv_call1 (ds := [.tuple xs]) (d := .int xs.length) rfl rfl]
      by_cases h1 : (1 : Int) ≤ xs.length <;> simp [eC, leD, bB, h1]
    by_cases hl : 1 ≤ xs.length ∧ xs.length ≤ 4
    · have ew : wfO ks (.tuple xs) = wfGo ks 0 xs := if_pos hl
      rw [ew]
      refine (ev_guard (b := false) (d := .tuple [.int (-1), S "wish"]) ((hc _ rfl).trans (by rw [decide_eq_true (by omega), decide_eq_true (by omega)]; rfl)) rfl).trans ?_
      let R : Option LV → Option LV → Rho := fun a b => [some (.dat (.tuple (ks.map .str))), some (.dat (.tuple xs)), a, b]
      have rl : (rgD 0 xs.length).length = xs.length := rgD_len _ _
      have rg := lkE_go (ks := ks) (xs := xs) xs.length 0 (by omega)
      rw [List.drop_zero] at rg
      refine ev_for9 (xs := rgD 0 xs.length) (E := lkE ks xs) (fun ρ => ∃ a b, ρ = R a b) (ev_itG (ds := [.int xs.length]) rfl (ran1_ok (by omega) (by omega))) ⟨none, none, rfl⟩ (fun j x ρ hx ⟨a, b, er⟩ => ?_) (fun d hd => ?_) (fun hn ρ' ⟨a, b, er⟩ => ?_)
      · subst er
        have hj : j < xs.length := by
          have := (List.getElem?_eq_some_iff.mp hx).1
          rw [rl] at this
          exact this
        rw [rgD_get hj] at hx
        cases hx
        obtain ⟨it, hit⟩ : ∃ it, xs[j]? = some it := ⟨_, List.getElem?_eq_getElem hj⟩
        let jI : Option LV := some (.dat (.int ((0 : Int) + (j : Nat))))
        refine ⟨R jI b, rfl, ?_⟩
        have eE : lkE ks xs j = (itF ks it).map fun z => .tuple [.int (j : Nat), .str z] := by
          unfold lkE
          rw [hit]
          rfl
        have a1 : ∀ {body : Rho → Option Out} {o : Option Out}, body (R jI (some (.dat it))) = o → sSeq (sAsg (.nm 3) (e2 ixD (eVar 1) (eVar 2))) body (R jI b) = o := fun h => (ev_asg (d := it) (ρ' := R jI (some (.dat it))) (ev_e2 (a := .tuple xs) (b := .int ((0 : Int) + (j : Nat))) rfl rfl (by rw [Int.zero_add]; exact atI_nat hit)) rfl).trans h
        have tel : ∀ z : Str, eTup (aCons (eVar 2) (aCons (eC (.str z)) aNil)) (R jI (some (.dat it))) = some (.tuple [.int (j : Nat), .str z]) := fun z => by
          refine wv_tup (wv_cons (?_ : _ = some (PyData.int (j : Nat))) (wv_cons rfl rfl)) (by show 2 ≤ 1000; decide)
          show some (PyData.int ((0 : Int) + (j : Nat))) = _
          rw [Int.zero_add]
        rw [eE]
        by_cases h3 : ∃ p q r, it = .tuple [p, q, r]
        · obtain ⟨p, q, r, rfl⟩ := h3
          have g1 : (oOr (oNot (oB (Dl.e1 (isTy "tuple") (eVar 3)))) (oB (e2 neD (eCall lenD (aCons (eVar 3) aNil)) (eC (.int 3))))) (R jI (some (.dat (.tuple [p, q, r])))) = some false := (ev_oOr (b := false) (ev_not (b := true) (ev_oB (ev_e1 (a := .tuple [p, q, r]) rfl (isi_tuple _))))).trans ((if_neg Bool.false_ne_true).trans (ev_oB (ev_e2 (a := .int 3) (b := .int 3) (wv_call1 (ds := [.tuple [p, q, r]]) rfl rfl) rfl ((ne_ok rfl rfl).trans rfl))))
          have st : e2 ixD (eVar 3) (eC (.int 0)) (R jI (some (.dat (.tuple [p, q, r])))) = some p := ev_e2 (a := .tuple [p, q, r]) (b := .int 0) rfl rfl rfl
          have s1 : e2 ixD (eVar 3) (eC (.int 1)) (R jI (some (.dat (.tuple [p, q, r])))) = some q := ev_e2 (a := .tuple [p, q, r]) (b := .int 1) rfl rfl rfl
          have s2 : e2 ixD (eVar 3) (eC (.int 2)) (R jI (some (.dat (.tuple [p, q, r])))) = some r := ev_e2 (a := .tuple [p, q, r]) (b := .int 2) rfl rfl rfl
          have nin : oB (e2 ninS (e2 ixD (eVar 3) (eC (.int 0))) (eVar 0)) (R jI (some (.dat (.tuple [p, q, r])))) = some (!kIn ks p) := ev_oB (ev_e2 (a := p) (b := .tuple (ks.map .str)) st rfl ninS_ks)
          show match Option.map (fun z => PyData.tuple [.int (j : Nat), .str z]) (if kIn ks p = true then (if isFrom 0 60 q = true then (if isFrom (intW q) 60 r = true then none else some (Str.ofString "greatest")) else some (Str.ofString "least")) else some (Str.ofString "kind")) with | some d => _ | none => _
          cases hk : kIn ks p with
          | false =>
            rw [hk] at nin
            refine a1 ((ev_guard (b := false) g1 (tel _)).trans ((if_neg Bool.false_ne_true).trans ?_))
            refine (ev_guard (b := true) (d := .tuple [.int (j : Nat), S "kind"]) ?_ (tel _)).trans rfl
            cases hp : isStD p with
            | false => exact (ev_oOr (b := true) (ev_not (b := false) (ev_oB (ev_e1 (a := p) st ((isi_str _).trans (congrArg (fun b => some (PyData.bool b)) hp)))))).trans rfl
            | true => exact (ev_oOr (b := false) (ev_not (b := true) (ev_oB (ev_e1 (a := p) st ((isi_str _).trans (congrArg (fun b => some (PyData.bool b)) hp)))))).trans ((if_neg Bool.false_ne_true).trans nin)
          | true =>
            rw [hk] at nin
            obtain ⟨z, rfl⟩ := kIn_str hk
            have g2 : (oOr (oNot (oB (Dl.e1 (isTy "str") (e2 ixD (eVar 3) (eC (.int 0)))))) (oB (e2 ninS (e2 ixD (eVar 3) (eC (.int 0))) (eVar 0)))) (R jI (some (.dat (.tuple [.str z, q, r])))) = some false := (ev_oOr (b := false) (ev_not (b := true) (ev_oB (ev_e1 (a := .str z) st (isi_str _))))).trans ((if_neg Bool.false_ne_true).trans nin)
            have f1 : oNot (oB (eCall (gN 3 sFrom) (aCons (e2 ixD (eVar 3) (eC (.int 1))) (aCons (eC (.int 0)) (aCons (eC (.int 60)) aNil))))) (R jI (some (.dat (.tuple [.str z, q, r])))) = some (!isFrom 0 60 q) := ev_not (ev_oB (ev_call (ds := [q, .int 0, .int 60]) (wv_cons s1 (wv_cons rfl (wv_cons rfl rfl))) rfl rfl))
            rw [if_pos rfl]
            cases hq : isFrom 0 60 q with
            | false =>
              rw [hq] at f1
              refine a1 ((ev_guard (b := false) g1 (tel _)).trans ((if_neg Bool.false_ne_true).trans ?_))
              refine (ev_guard (b := false) g2 (tel _)).trans ((if_neg Bool.false_ne_true).trans ?_)
              exact (ev_guard (b := true) (d := .tuple [.int (j : Nat), S "least"]) f1 (tel _)).trans rfl
            | true =>
              rw [hq] at f1
              obtain ⟨i, rfl, _, _⟩ := from_int hq
              have f2 : oNot (oB (eCall (gN 3 sFrom) (aCons (e2 ixD (eVar 3) (eC (.int 2))) (aCons (e2 ixD (eVar 3) (eC (.int 1))) (aCons (eC (.int 60)) aNil))))) (R jI (some (.dat (.tuple [.str z, .int i, r])))) = some (!isFrom i 60 r) := ev_not (ev_oB (ev_call (ds := [r, .int i, .int 60]) (wv_cons s2 (wv_cons s1 (wv_cons rfl rfl))) rfl rfl))
              rw [if_pos rfl]
              show match Option.map (fun z => PyData.tuple [.int (j : Nat), .str z]) (if isFrom i 60 r = true then none else some (Str.ofString "greatest")) with | some d => _ | none => _
              cases hr' : isFrom i 60 r with
              | false =>
                rw [hr'] at f2
                refine a1 ((ev_guard (b := false) g1 (tel _)).trans ((if_neg Bool.false_ne_true).trans ?_))
                refine (ev_guard (b := false) g2 (tel _)).trans ((if_neg Bool.false_ne_true).trans ?_)
                refine (ev_guard (b := false) f1 (tel _)).trans ((if_neg Bool.false_ne_true).trans ?_)
                exact (ev_ifR f2).trans ((if_pos rfl).trans (ev_retR (tel _)))
              | true =>
                rw [hr'] at f2
                refine ⟨R jI (some (.dat (.tuple [.str z, .int i, r]))), a1 ((ev_guard (b := false) g1 (tel _)).trans ((if_neg Bool.false_ne_true).trans ?_)), _, _, rfl⟩
                refine (ev_guard (b := false) g2 (tel _)).trans ((if_neg Bool.false_ne_true).trans ?_)
                refine (ev_guard (b := false) f1 (tel _)).trans ((if_neg Bool.false_ne_true).trans ?_)
                exact (ev_ifR f2).trans ((if_neg Bool.false_ne_true).trans rfl)
        · have ei : itF ks it = some (Str.ofString "item") := by
            unfold itF
            split
            · exact (h3 ⟨_, _, _, rfl⟩).elim
            · rfl
          rw [ei]
          refine a1 ((ev_guard (b := true) (d := .tuple [.int (j : Nat), S "item"]) ?_ (tel _)).trans rfl)
          by_cases h4 : ∃ ys, it = .tuple ys
          · obtain ⟨ys, rfl⟩ := h4
            refine (ev_oOr (b := false) (ev_not (b := true) (ev_oB (ev_e1 (a := .tuple ys) rfl (isi_tuple _))))).trans ((if_neg Bool.false_ne_true).trans (ev_oB (ev_e2 (a := .int ys.length) (b := .int 3) (wv_call1 (ds := [.tuple ys]) rfl rfl) rfl ((ne_ok rfl rfl).trans ?_))))
            show some (PyData.bool (!((ys.length : Int) == 3))) = _
            have : ((ys.length : Int) == 3) = false := by
              rw [beq_eq_false_iff_ne]
              intro h
              match ys, h with
              | [p, q, r], _ => exact h3 ⟨p, q, r, rfl⟩
              | [], h => cases h
              | [_], h => cases h
              | [_, _], h => cases h
              | _ :: _ :: _ :: _ :: l, h =>
                simp only [List.length_cons] at h
                omega
            rw [this]
            rfl
          · refine (ev_oOr (b := true) (ev_not (b := false) (ev_oB (ev_e1 (a := it) rfl ((isi_tuple _).trans ?_))))).trans rfl
            cases it <;> first | rfl | exact (h4 ⟨_, rfl⟩).elim
      · rw [rl, rg] at hd
        obtain ⟨q, hq, rfl⟩ := Option.map_eq_some_iff.mp hd
        rw [hq]
        rfl
      · subst er
        rw [rl, rg] at hn
        have hn := Option.map_eq_none_iff.mp hn
        rw [hn]
        rfl
    · have ew : wfO ks (.tuple xs) = some (-1, Str.ofString "wish") := if_neg hl
      rw [ew]
      refine (ev_guard (b := true) ((hc _ rfl).trans ?_) rfl).trans rfl
      by_cases h1 : (1 : Int) ≤ xs.length
      · rw [decide_eq_true h1, decide_eq_false (by omega)]; rfl
      · rw [decide_eq_false h1]; rfl
  · have ew : wfO ks x = some (-1, Str.ofString "wish") := by
      unfold wfO
      split
      · exact (ht ⟨_, rfl⟩).elim
      · rfl
    rw [ew]
    refine (ev_guard (b := true) ((ev_oOr (b := true) (ev_not (b := false) (ev_oB (ev_e1 (a := x) rfl ((isi_tuple _).trans ?_))))).trans rfl) rfl).trans rfl
    cases x <;> first | rfl | exact (ht ⟨_, rfl⟩).elim
end
end Dl
namespace Dl
open PySem PySem.Spec PyProof.Rows L2 Rt
/-! ### data that is neither deep nor long, with one small dict -/
def Bw (m : Nat) : Nat → D → Prop
  | 0, _ => False
  | n + 1, .tuple ds => ds.length ≤ 70 + m ∧ ∀ d ∈ ds, Bw m n d
  | n + 1, .list ds => ds.length ≤ 70 + m ∧ ∀ d ∈ ds, Bw m n d
  | _ + 1, .dict kvs => kvs = [] ∨ kvs = [(.str (Str.ofString "a"), .int 1)]
  | _ + 1, .int i => i.natAbs ≤ 10 ^ 29 + 100 * m
  | _ + 1, .str z => PyData.strOk z = true ∧ z.length ≤ 20 + 20 * m
  | _ + 1, .none => True
  | _ + 1, .bool _ => True
theorem Bw.up {m m' : Nat} (hm : m ≤ m') : ∀ {n n' : Nat} {d : D}, Bw m n d → n ≤ n' → Bw m' n' d
  | 0, _, _, h, _ => h.elim
  | n + 1, 0, _, _, l => absurd l (by omega)
  | n + 1, n' + 1, .tuple ds, h, l => ⟨Nat.le_trans h.1 (by omega), fun d hd => Bw.up hm (h.2 d hd) (by omega)⟩
  | n + 1, n' + 1, .list ds, h, l => ⟨Nat.le_trans h.1 (by omega), fun d hd => Bw.up hm (h.2 d hd) (by omega)⟩
  | n + 1, n' + 1, .dict kvs, h, l => h
  | n + 1, n' + 1, .int i, h, l => Nat.le_trans (show i.natAbs ≤ 10 ^ 29 + 100 * m from h) (by omega)
  | n + 1, n' + 1, .str z, h, l => ⟨h.1, Nat.le_trans h.2 (by omega)⟩
  | n + 1, n' + 1, .none, h, l => trivial
  | n + 1, n' + 1, .bool _, h, l => trivial
theorem Bw.lim {m : Nat} (hm : m ≤ 100) : ∀ {n : Nat} {d : D}, Bw m n d → d.showable = true ∧ d.depth ≤ n ∧ d.leavesShort 40 = true
  | 0, _, h => h.elim
  | n + 1, .tuple ds, h => ⟨all_show fun d hd => (Bw.lim hm (h.2 d hd)).1, Nat.succ_le_succ (all_depth fun d hd => (Bw.lim hm (h.2 d hd)).2.1), all_leaves fun d hd => (Bw.lim hm (h.2 d hd)).2.2⟩
  | n + 1, .list ds, h => ⟨all_show fun d hd => (Bw.lim hm (h.2 d hd)).1, Nat.succ_le_succ (all_depth fun d hd => (Bw.lim hm (h.2 d hd)).2.1), all_leaves fun d hd => (Bw.lim hm (h.2 d hd)).2.2⟩
  | n + 1, .dict kvs, h => by
    rcases (show kvs = [] ∨ kvs = [(.str (Str.ofString "a"), .int 1)] from h) with rfl | rfl
    · exact ⟨rfl, by show 0 + 1 ≤ n + 1; omega, rfl⟩
    · exact ⟨by decide +kernel, by show 1 ≤ n + 1; omega, by decide +kernel⟩
  | n + 1, .int i, h => by
    have h1 := big30 hm h
    refine ⟨decide_eq_true (Nat.lt_trans (log30 h1) (by decide)), Nat.zero_le _, decide_eq_true ?_⟩
    have := int_text_length_le10 (a := i) (k := 30) (by decide) h1
    show (Str.ofString (toString i)).length ≤ 40
    rw [PySem.ofString_length]
    omega
  | n + 1, .str z, h => ⟨rfl, Nat.zero_le _, by
    have o := h.1
    unfold PyData.strOk at o
    rw [Array.all_eq_true'] at o
    show (z.cps.toList.all fun c => decide (c < 16 ^ 8)) = true
    rw [List.all_eq_true]
    intro c hc
    have := of_decide_eq_true (o c (Array.mem_toList_iff.mp hc))
    exact decide_eq_true (Nat.lt_trans this (by decide))⟩
  | n + 1, .none, h => ⟨rfl, Nat.zero_le _, rfl⟩
  | n + 1, .bool _, h => ⟨rfl, Nat.zero_le _, rfl⟩
theorem Bw.repr {m n : Nat} {d : D} (h : Bw m n d) (hm : m ≤ 100) (hn : n ≤ 60) (hw : d.weight ≤ 200000) : reprD [d] = some (.str d.shown) := by
  obtain ⟨a, b, c⟩ := h.lim hm
  have := PyData.shown_le 40 (by decide) d c
  refine if_pos ⟨a, by omega, Nat.le_trans this ?_⟩
  exact Nat.le_trans (show (40 + 2) * d.weight + 40 ≤ 8400040 by omega) (by decide)
def OddW (d : D) : Prop := (∀ m, Bw m 2 d) ∧ d.weight ≤ 100
def SpW (x d : D) : Prop := (∀ m k, m ≤ 5 → Bw m k x → Bw (m + 1) (k + 2) d) ∧ d.weight ≤ 2 * x.weight + 200
theorem OddW.sp {x d : D} (h : OddW d) : SpW x d := ⟨fun m k _ _ => (h.1 (m + 1)).up (Nat.le_refl _) (by omega), by have := h.2; omega⟩
theorem sw_drop {xs : List D} : SpW (.tuple xs) (.tuple (xs.drop 1)) := ⟨fun m k _ h => by
  cases k with
  | zero => exact h.elim
  | succ k => exact ⟨by have := h.1; rw [List.length_drop]; omega, fun d hd => (h.2 d (List.mem_of_mem_drop hd)).up (by omega) (by omega)⟩, by
  show PyData.weightAll _ ≤ 2 * PyData.weightAll xs + 200
  have := wAll_drop xs 1
  omega⟩
theorem sw_rev {xs : List D} : SpW (.tuple xs) (.tuple xs.reverse) := ⟨fun m k _ h => by
  cases k with
  | zero => exact h.elim
  | succ k => exact ⟨by have := h.1; rw [List.length_reverse]; omega, fun d hd => (h.2 d (List.mem_reverse.mp hd)).up (by omega) (by omega)⟩, by
  show PyData.weightAll _ ≤ 2 * PyData.weightAll xs + 200
  rw [wAll_rev]
  omega⟩
theorem sw_list {xs : List D} : SpW (.tuple xs) (.list xs) := ⟨fun m k _ h => by
  cases k with
  | zero => exact h.elim
  | succ k => exact ⟨by have := h.1; omega, fun d hd => (h.2 d hd).up (by omega) (by omega)⟩, by
  show PyData.weightAll _ ≤ 2 * PyData.weightAll xs + 200
  omega⟩
theorem sw_set {xs : List D} {i : Nat} {x y : D} (hi : xs[i]? = some x) (h : SpW x y) : SpW (.tuple xs) (.tuple (xs.set i y)) := ⟨fun m k hm hb => by
  cases k with
  | zero => exact hb.elim
  | succ k => exact ⟨by have := hb.1; rw [List.length_set]; omega, fun d hd => by
      rcases List.mem_or_eq_of_mem_set hd with hd | rfl
      · exact (hb.2 d hd).up (by omega) (by omega)
      · exact h.1 m k hm (hb.2 x (List.mem_of_getElem? hi))⟩, by
  show PyData.weightAll _ ≤ 2 * PyData.weightAll xs + 200
  have h1 := wAll_set (y := y) hi
  have h2 := wAll_mem (List.mem_of_getElem? hi)
  have h3 := h.2
  omega⟩
theorem sw_str {x y : Str} (h : ∀ c ∈ y.cps.toList, c ∈ x.cps.toList ∨ c < 1114112) (hl : y.length ≤ x.length + 8) : SpW (.str x) (.str y) := ⟨fun m k _ hb => by
  cases k with
  | zero => exact hb.elim
  | succ k => exact ⟨strOk_iff.mpr fun c hc => (h c hc).elim (strOk_iff.mp hb.1 c) id, by have := hb.2; omega⟩, by
  show y.length ≤ 2 * x.length + 200
  omega⟩
theorem sw_int {x : D} {i j : Int} (hx : ∀ m k, m ≤ 5 → Bw m k x → Bw m k (.int i)) (h0 : i.natAbs < 10 ^ 30) (hj : j.natAbs ≤ i.natAbs + 20) : SpW x (.int j) := ⟨fun m k hm hb => by
  have := hx m k hm hb
  cases k with
  | zero => exact hb.elim
  | succ k => exact Nat.le_trans hj (Nat.le_trans (Nat.add_le_add_right (show i.natAbs ≤ 10 ^ 29 + 100 * m from this) 20) (by omega)), by
  have e : j.natAbs < 2 ^ 100 := Nat.lt_of_le_of_lt hj (Nat.lt_trans (Nat.add_lt_add_right h0 20) (by decide))
  have : (PyData.int j).weight ≤ 200 := by
    show (if j == 0 then 0 else j.natAbs.log2 + 1) ≤ 200
    split
    · omega
    · by_cases z : j.natAbs = 0
      · rw [z]; decide
      · have := (Nat.log2_lt z).mpr e
        omega
  omega⟩
theorem sw_bool {x : D} {b : Bool} : SpW x (.bool b) := ⟨fun m k _ _ => trivial, Nat.zero_le _⟩
end Dl
namespace Dl
open PySem PySem.Spec PyProof.Rows L2 Rt
/-! ### range(n) of many -/
def ran1W : List D → Option (List D)
  | [.int j] => if -(2 ^ 62) ≤ j ∧ j < 2 ^ 23 then some (rgD 0 j.toNat) else none
  | _ => none
theorem szW {n : Nat} (h : n ≤ 2 ^ 23) : n ≤ sizeLine := Nat.le_trans h (by decide)
theorem ran1W_ok {j : Int} (h3 : -(2 ^ 62) ≤ j) (h5 : j < 2 ^ 23) : ran1W [.int j] = some (rgD 0 j.toNat) := if_pos ⟨h3, h5⟩
section
variable {X : Cx}
theorem dI_ran1W {tg a : Expr} {p pos : Pos} {f : Rho → Option (List D)} {μ : Bool} (hg : Gl X "range") (hm : X.mg "range" = none) (ha : PA X [a] (tA μ f)) (hs : starEach [a] X.env = [(false, eval a X.env)] := by rfl) : PI X tg (.Call (.Name "range" p) [a] [] pos) (iD μ false (itG ran1W f)) := (pi_range1 hg hm ha hs).wk fun σ H R q => by
  obtain ⟨M0, H0, ρ, items, Rr, e, q⟩ := q
  obtain ⟨ds, ed, e⟩ := some_bind e
  refine ⟨M0, H0, ρ, ds, Rr, ed, fun vs H1 s1 r1 => ?_⟩
  cases r1 with
  | nil => cases e
  | cons h t =>
    cases t with
    | nil =>
      cases h <;> try (cases e; done)
      obtain ⟨l, rfl⟩ := iteS e
      exact ⟨_, rfl, l.1, by omega, q _ _ s1 fun M' hM => DW.rng (szW (by omega))⟩
    | cons h2 t => cases h <;> cases e
end
end Dl
namespace Dl
open PySem PySem.Spec PyProof.Rows L2 Rt Dx
theorem eqv_str9 (a b : Str) : PyData.eqv (.str a) (.str b) = decide (a = b) := by
  show (a == b) = _
  by_cases h : a = b
  · subst h
    rw [decide_eq_true rfl, beq_self_eq_true]
  · rw [decide_eq_false h]
    exact beq_eq_false_iff_ne.mpr h
noncomputable def sAl (dp : D → Prop) : List D → Option D := fun ds => match ds with
  | [a, b] => @ite _ (a = b ∧ dp a) (Classical.propDecidable _) (some (.bool true)) none
  | _ => none
def dpB : Nat → D → Prop
  | 0, _ => False
  | n + 1, .tuple ds => ds.length ≤ 2000000 ∧ ∀ d ∈ ds, dpB n d
  | n + 1, .list _ => False
  | n + 1, .dict _ => False
  | n + 1, .int _ => True
  | n + 1, .none => True
  | n + 1, .str z => PyData.strOk z = true
  | n + 1, _ => False
theorem sAl_ok {dp : D → Prop} {a : D} (h : dp a) : sAl dp [a, a] = some (.bool true) := by
  exact @if_pos _ (Classical.propDecidable _) ⟨rfl, h⟩ _ _ _
theorem ev_oAndT {f g : Rho → Option Bool} {ρ : Rho} {b : Bool} (h1 : f ρ = some true) (h2 : g ρ = some b) : oAnd f g ρ = some b := (ev_oAnd h1).trans h2
theorem ev_oAndF {f g : Rho → Option Bool} {ρ : Rho} (h1 : f ρ = some false) : oAnd f g ρ = some false := (ev_oAnd h1).trans rfl
theorem isiV {T : String} {i : Nat} {ρ : Rho} {d b : D} (h : eVar i ρ = some d) (ht : isTy T d = some b) : e1 (isTy T) (eVar i) ρ = some b := by
  unfold e1
  rw [h]
  exact ht
theorem ev_or2 {f g : Rho → Option Bool} {ρ : Rho} (h1 : f ρ = some false) (h2 : g ρ = some false) : oOr f g ρ = some false := (ev_oOr h1).trans h2
section
variable {P : Program} {w : World} {K : PySem.W.Frag} {mg : Str → Option Value} {base : Heap}
theorem ok_never {k n : Nat} {f : Addr} {fd : FuncData} {ps : List Str} {g : List D → Option D} (hg : ∀ ds, g ds = none) : FnOk P w K mg base CX0 k f fd ps (spD n g) :=
  ⟨fun vs H Q E h => by
    obtain ⟨M, ds, d, _, _, _, e, _⟩ := h
    rw [hg] at e
    exact (nomatch e), fun A outer s H args us vs Q E _ _ _ _ h => by
    obtain ⟨M, ds, d, _, _, _, e, _⟩ := h
    rw [hg] at e
    exact (nomatch e)⟩
theorem ok_alikeS {f : Addr} {fd : FuncData} {k n : Nat} (F : Fun K "_law_alike" "_law_alike" s_law_alike f fd) (m_isinstance : mg "isinstance" = none) (m_tuple : mg "tuple" = none) (m_bool : mg "bool" = none) (m_int : mg "int" = none) (m_len : mg "len" = none) (m_range : mg "range" = none)
    (C__law_alike : Cl P w K mg base k "_law_alike" ["_law_one", "_law_other"] (spD 2 (sAl (dpB n)))) : FnOk P w K mg base CX0 (k + 1) f fd ["_law_one", "_law_other"] (spD 2 (sAl (dpB (n + 1)))) := by
  refine okFn F sc_law_alike rfl fun cdv A outer s H E hr => ⟨_, (dSs_cons (dS_if (PW.pt (dW_and (dT_val (dE_isi (dE_var (μ := true) (pv 0)) (pe_bltn (v := .ty "tuple") (by rfl) m_tuple (by decide +kernel) rfl) (by rfl) m_isinstance (by decide +kernel))) (dW_and1 (dT_val (dE_isi (dE_var (μ := true) (pv 1)) (pe_bltn (v := .ty "tuple") (by rfl) m_tuple (by decide +kernel) rfl) (by rfl) m_isinstance (by decide +kernel))))))
    (dSs_cons (dS_if (dT_cmp (o_ne hr.units) (dE_callB c_len (by rfl) m_len (by decide +kernel) (dA_cons (dE_var (μ := true) (pv 0)) (dA_nil (μ := true)))) (dE_callB c_len (by rfl) m_len (by decide +kernel) (dA_cons (dE_var (μ := true) (pv 1)) (dA_nil (μ := true)))) (nomark _))
    (dSs_one (dS_ret (ps_ret (dE_c (μ := true) pe_bl))))
    dSs_nil)
  (dSs_one (dS_ret (ps_ret (dE_cmp (o_eq hr.units) (dE_lc (K := K) (p := (.nm 2)) (pe_lc (own := [("_law_k", 2)]) (g := gP K (.nm 2)) rfl sc_law_alike.nd (dI_ran1W (by rfl) m_range (dA_cons (dE_callB c_len (by rfl) m_len (by decide +kernel) (dA_cons (dE_var (μ := true) (pv 0)) (dA_nil (μ := true)))) (dA_nil (μ := true)))) (blkOk_by (own := [("_law_k", 2)]) (N := ["_law_one", "_law_other", "_law_k"]) (sc := defScope s_law_alike) (by decide +kernel)) (fun _ _ _ _ _ => (pg_name (i := 2) sc_law_alike.nd rfl (.inl rfl))) (fun _ _ _ _ _ => (pts_one (dT_not (dT_val (dE_cl C__law_alike (hr.mono (by omega)) (by rfl) (dA_cons (dE_ix (dE_var (μ := true) (pv 0)) (dE_var (μ := true) (pv 2))) (dA_cons (dE_ix (dE_var (μ := true) (pv 1)) (dE_var (μ := true) (pv 2))) (dA_nil (μ := true))))))))) (fun _ _ _ _ _ => (dE_var (μ := true) (pv 2))))) (dE_lst (dA_nil (μ := true))) (nomark _))))))
    dSs_nil)
  (dSs_cons (dS_if (dT_cmp (o_ne hr.units) (dE_isi (dE_var (μ := true) (pv 0)) (pe_bltn (v := .ty "bool") (by rfl) m_bool (by decide +kernel) rfl) (by rfl) m_isinstance (by decide +kernel)) (dE_isi (dE_var (μ := true) (pv 1)) (pe_bltn (v := .ty "bool") (by rfl) m_bool (by decide +kernel) rfl) (by rfl) m_isinstance (by decide +kernel)) (nomark _))
    (dSs_one (dS_ret (ps_ret (dE_c (μ := true) pe_bl))))
    dSs_nil)
  (dSs_one (dS_ret (ps_ret (dE_and (dE_cmp (o_eq hr.units) (dE_isi (dE_var (μ := true) (pv 0)) (pe_bltn (v := .ty "int") (by rfl) m_int (by decide +kernel) rfl) (by rfl) m_isinstance (by decide +kernel)) (dE_isi (dE_var (μ := true) (pv 1)) (pe_bltn (v := .ty "int") (by rfl) m_int (by decide +kernel) rfl) (by rfl) m_isinstance (by decide +kernel)) (nomark _)) (dE_one (dE_cmp (o_eq hr.units) (dE_var (μ := true) (pv 0)) (dE_var (μ := true) (pv 1)) (nomark _))))))))), fun ds d l e => ?_⟩
  match ds, e with
  | [a, b], e =>
    have e : @ite _ (a = b ∧ dpB (n + 1) a) (Classical.propDecidable _) (some (PyData.bool true)) none = some d := e
    by_cases hc : a = b ∧ dpB (n + 1) a
    · rw [if_pos hc] at e
      cases e
      obtain ⟨rfl, dp⟩ := hc
      refine ⟨.rt (.bool true), ?_, rfl⟩
      cases a with
      | tuple xs =>
        obtain ⟨xl, dp⟩ : xs.length ≤ 2000000 ∧ ∀ d ∈ xs, dpB n d := dp
        refine (ev_if (b := true) (ev_oAndT (ev_oB (isiV rfl (isi_tuple _))) (ev_oB (isiV rfl (isi_tuple _))))).trans ?_
        rw [if_pos rfl]
        refine ev_seqR ((wv_skip (ev_oB (ev_e2 (a := .int xs.length) (b := .int xs.length) rfl rfl ?_))).trans (ev_ret (ev_e2 (a := .list []) (b := .list []) (ev_lcE (items := (List.range xs.length).map fun (i : Nat) => PyData.int ((0 : Int) + i)) (ev_itG (ds := [.int xs.length]) rfl (ran1W_ok (by omega) (by omega))) ?_) rfl rfl)))
        · show some (PyData.bool (!((xs.length : Int) == xs.length))) = _
          rw [beq_self_eq_true]
          rfl
        · refine (ev_lcIf (i := 2) (k := fun _ => false) (t := id) (by show 2 < 3; decide) _ (fun x hx => ?_) (fun x hx h => nomatch h)).trans (by simp)
          obtain ⟨i, hi, rfl⟩ := List.mem_map.mp hx
          have hi := List.mem_range.mp hi
          obtain ⟨y, hy⟩ : ∃ y, xs[i]? = some y := ⟨_, List.getElem?_eq_getElem hi⟩
          have at1 : L2.atI xs ((0 : Int) + (i : Nat)) = some y := by
            rw [Int.zero_add]
            exact atI_nat hy
          exact ev_not (b := true) (ev_oB (ev_call (ds := [y, y]) (ev_cons (ev_e2 (a := .tuple xs) (b := .int ((0 : Int) + (i : Nat))) rfl rfl at1) (ev_cons (ev_e2 (a := .tuple xs) (b := .int ((0 : Int) + (i : Nat))) rfl rfl at1) rfl)) rfl (sAl_ok (dp y (List.mem_of_getElem? hy)))))
      | int i =>
        refine (wv_skip (ev_oAndF (ev_oB (isiV rfl (isi_tuple _))))).trans ?_
        refine (wv_skip (ev_oB (ev_e2 (a := .bool false) (b := .bool false) (isiV rfl (isi_bool _)) (isiV rfl (isi_bool _)) rfl))).trans ?_
        refine ev_ret (ev_and (b := true) (ev_e2 (a := .bool true) (b := .bool true) (isiV rfl (isi_int _)) (isiV rfl (isi_int _)) rfl) (fun _ => ev_e2 (a := .int i) (b := .int i) rfl rfl ?_) (fun z => by cases z))
        show some (PyData.bool (i == i)) = _
        rw [beq_self_eq_true]
      | none =>
        refine (wv_skip (ev_oAndF (ev_oB (isiV rfl (isi_tuple _))))).trans ?_
        refine (wv_skip (ev_oB (ev_e2 (a := .bool false) (b := .bool false) (isiV rfl (isi_bool _)) (isiV rfl (isi_bool _)) rfl))).trans ?_
        exact ev_ret (ev_and (b := true) (ev_e2 (a := .bool false) (b := .bool false) (isiV rfl (isi_int _)) (isiV rfl (isi_int _)) rfl) (fun _ => ev_e2 (a := .none) (b := .none) rfl rfl rfl) (fun z => by cases z))
      | list xs => exact (dp : False).elim
      | dict xs => exact (dp : False).elim
      | str z =>
        have hz : PyData.strOk z = true := dp
        refine (wv_skip (ev_oAndF (ev_oB (isiV rfl (isi_tuple _))))).trans ?_
        refine (wv_skip (ev_oB (ev_e2 (a := .bool false) (b := .bool false) (isiV rfl (isi_bool _)) (isiV rfl (isi_bool _)) rfl))).trans ?_
        refine ev_ret (ev_and (b := true) (ev_e2 (a := .bool false) (b := .bool false) (isiV rfl (isi_int _)) (isiV rfl (isi_int _)) rfl) (fun _ => ev_e2 (a := .str z) (b := .str z) rfl rfl ?_) (fun z => by cases z))
        rw [eq_ok (okD_str hz) (okD_str hz), eqv_str9, decide_eq_true rfl]
      | bool b => exact (dp : False).elim
    · rw [if_neg hc] at e
      cases e
theorem ok_alike {f : Addr} {fd : FuncData} (F : Fun K "_law_alike" "_law_alike" s_law_alike f fd) (b : Binds K fd ["_law_one", "_law_other"] []) (g : mg "_law_alike" = some (.ref f)) (m_isinstance : mg "isinstance" = none) (m_tuple : mg "tuple" = none) (m_bool : mg "bool" = none) (m_int : mg "int" = none) (m_len : mg "len" = none) (m_range : mg "range" = none) : FnOk P w K mg base CX0 6 f fd ["_law_one", "_law_other"] (spD 2 (sAl (dpB 6))) := by
  have s0 : FnOk P w K mg base CX0 0 f fd ["_law_one", "_law_other"] (spD 2 (sAl (dpB 0))) := ok_never fun ds => by
    unfold sAl
    split
    · exact @if_neg _ (Classical.propDecidable _) (fun h => h.2) _ _ _
    · rfl
  have s1 := ok_alikeS F m_isinstance m_tuple m_bool m_int m_len m_range ⟨f, fd, s0, g, F.kp, b⟩
  have s2 := ok_alikeS F m_isinstance m_tuple m_bool m_int m_len m_range ⟨f, fd, s1, g, F.kp, b⟩
  have s3 := ok_alikeS F m_isinstance m_tuple m_bool m_int m_len m_range ⟨f, fd, s2, g, F.kp, b⟩
  have s4 := ok_alikeS F m_isinstance m_tuple m_bool m_int m_len m_range ⟨f, fd, s3, g, F.kp, b⟩
  have s5 := ok_alikeS F m_isinstance m_tuple m_bool m_int m_len m_range ⟨f, fd, s4, g, F.kp, b⟩
  exact ok_alikeS F m_isinstance m_tuple m_bool m_int m_len m_range ⟨f, fd, s5, g, F.kp, b⟩
end
end Dl
namespace Dl
open PySem PySem.Spec PyProof.Rows L2 Rt Dx
def gSpW (n : Nat) : GF := gAny (2 * n + 4) (fun ds => ∃ x m, ds = [x] ∧ m ≤ 5 ∧ Bw m n x) (fun ds d => ∃ x, ds = [x] ∧ SpW x d)
theorem oddS9 (x : String) (h1 : PyData.strOk (Str.ofString x) = true := by decide +kernel) (h2 : (Str.ofString x).length ≤ 20 := by decide +kernel) : OddW (S x) := ⟨fun m => ⟨h1, Nat.le_trans h2 (Nat.le_add_right _ _)⟩, Nat.le_trans h2 (by decide)⟩
theorem oddI9 {i : Int} (h : i.natAbs ≤ 10 ^ 29) (hw : (PyData.int i).weight ≤ 100) : OddW (.int i) := ⟨fun m => Nat.le_trans h (Nat.le_add_right _ _), hw⟩
def spA (x : D) : List D := [.none, .bool true, .int 0, .int (-1), .int 7, S "", S "a", .tuple [], .tuple [x], .tuple [x, x], S "Z", .int (1 * 2 ^ 70)]
def spB : List D := [.int 4, .int 20, .int 21, .int 60, .int 61, .dict [(S "a", .int 1)], .tuple [.dict []], .list [.int 0]]
theorem sw_one {x : D} : SpW x (.tuple [x]) := ⟨fun m k _ h => ⟨by show 1 ≤ 70 + (m + 1); omega, fun d hd => by rw [List.mem_singleton.mp hd]; exact h.up (by omega) (by omega)⟩, by
  show x.weight + 1 + 0 ≤ 2 * x.weight + 200
  omega⟩
theorem sw_two {x : D} : SpW x (.tuple [x, x]) := ⟨fun m k _ h => ⟨by show 2 ≤ 70 + (m + 1); omega, fun d hd => by
  have : d = x := by
    simp only [List.mem_cons, List.not_mem_nil, or_false, or_self] at hd
    exact hd
  rw [this]
  exact h.up (by omega) (by omega)⟩, by
  show x.weight + 1 + (x.weight + 1 + 0) ≤ 2 * x.weight + 200
  omega⟩
theorem spA_all {x : D} : ∀ d ∈ spA x, SpW x d := by
  intro d hd
  unfold spA at hd
  simp only [List.mem_cons, List.not_mem_nil, or_false] at hd
  rcases hd with rfl | rfl | rfl | rfl | rfl | rfl | rfl | rfl | rfl | rfl | rfl | rfl
  · exact OddW.sp ⟨fun m => trivial, by decide⟩
  · exact OddW.sp ⟨fun m => trivial, by decide⟩
  · exact (oddI9 (by decide) (by decide)).sp
  · exact (oddI9 (by decide) (by decide)).sp
  · exact (oddI9 (by decide) (by decide)).sp
  · exact (oddS9 "").sp
  · exact (oddS9 "a").sp
  · exact OddW.sp ⟨fun m => ⟨Nat.zero_le _, fun d h => nomatch h⟩, by decide⟩
  · exact sw_one
  · exact sw_two
  · exact (oddS9 "Z").sp
  · exact (oddI9 (by decide) (wInt (by decide))).sp
theorem spB_all {x : D} : ∀ d ∈ spB, SpW x d := by
  intro d hd
  unfold spB at hd
  simp only [List.mem_cons, List.not_mem_nil, or_false] at hd
  rcases hd with rfl | rfl | rfl | rfl | rfl | rfl | rfl | rfl
  · exact (oddI9 (by decide) (wInt (by decide))).sp
  · exact (oddI9 (by decide) (wInt (by decide))).sp
  · exact (oddI9 (by decide) (wInt (by decide))).sp
  · exact (oddI9 (by decide) (wInt (by decide))).sp
  · exact (oddI9 (by decide) (wInt (by decide))).sp
  · exact OddW.sp ⟨fun m => .inr rfl, by decide +kernel⟩
  · exact OddW.sp ⟨fun m => ⟨by show 1 ≤ 70 + m; omega, fun d h => by rw [List.mem_singleton.mp h]; exact .inl rfl⟩, by decide⟩
  · exact OddW.sp ⟨fun m => ⟨by show 1 ≤ 70 + m; omega, fun d h => by rw [List.mem_singleton.mp h]; exact Nat.zero_le _⟩, by decide⟩
theorem sw_first {xs : List D} : SpW (.tuple xs) (.tuple (xs ++ xs.take 1)) := ⟨fun m k _ h => by
  cases k with
  | zero => exact h.elim
  | succ k => exact ⟨by have := h.1; rw [List.length_append, List.length_take]; omega, fun d hd => by
      rcases List.mem_append.mp hd with hd | hd
      · exact (h.2 d hd).up (by omega) (by omega)
      · exact (h.2 d (List.mem_of_mem_take hd)).up (by omega) (by omega)⟩, by
  show PyData.weightAll _ ≤ 2 * PyData.weightAll xs + 200
  rw [wAll_app]
  have := wAll_take xs 1
  omega⟩
theorem cut_take9 {α : Type} {xs : List α} {m : Nat} : cutD xs none (some (m : Int)) = xs.take m := by
  unfold cutD
  rw [HT.sIx_none, HT.sIx_nat, List.drop_zero, Nat.sub_zero]
  exact List.take_eq_take_min.symm
theorem ev_slX9 {f : EF} {lo hi : Rho → Option (Option Int)} {ρ : Rho} {d r : D} {l h : Option Int} (h1 : f ρ = some d) (h2 : lo ρ = some l) (h3 : hi ρ = some h) (h4 : slX d l h = some r) : eSlX f lo hi ρ = some r := by
  unfold eSlX
  rw [h1]
  show (lo ρ).bind _ = _
  rw [h2]
  show (hi ρ).bind _ = _
  rw [h3]
  exact h4
theorem addX_t9 {a b : List D} (h : a.length + b.length ≤ 1000) : addX (.tuple a) (.tuple b) = some (.tuple (a ++ b)) := if_pos (sz (by omega))
theorem addX_l9 {a b : List D} (h : a.length + b.length ≤ 1000) : addX (.list a) (.list b) = some (.list (a ++ b)) := if_pos (sz (by omega))
theorem addX_s9 {a b : Str} (h : a.length + b.length ≤ 1000) : addX (.str a) (.str b) = some (.str (a ++ b)) := if_pos (sz (by omega))
section
variable {P : Program} {w : World} {K : PySem.W.Frag} {mg : Str → Option Value} {base : Heap}
theorem ok_spoiltS {f : Addr} {fd : FuncData} {k n : Nat} (hk : 1 ≤ k) (F : Fun K "_law_spoilt" "_law_spoilt" s_law_spoilt f fd) (m_isinstance : mg "isinstance" = none) (m_tuple : mg "tuple" = none) (m_len : mg "len" = none) (m_str : mg "str" = none)
    (C__law_next : Cl P w K mg base 1 "_law_next" ["_law_drawn", "_law_many"] (spN 1 gNext)) (C__law_whole : Cl P w K mg base 1 "_law_whole" ["_law_thing"] (spD 1 sWho)) (C__law_spoilt : Cl P w K mg base k "_law_spoilt" ["_law_drawn", "_law_thing"] (spN 1 (gSpW n))) :
    FnOk P w K mg base CX0 (k + 1) f fd ["_law_drawn", "_law_thing"] (spN 1 (gSpW (n + 1))) := by
  refine okFnN F sc_law_spoilt rfl fun cdv A outer s H E hr => ⟨_, (nSs_cons (nS_if (PW.pt (nW_and (nT_pure (dT_val (dE_isi (dE_var (μ := true) (pv 1)) (pe_bltn (v := .ty "tuple") (by rfl) m_tuple (by decide +kernel) rfl) (by rfl) m_isinstance (by decide +kernel)))) (nW_and (nT_pure (dT_cmp (o_neT0 hr.units) (dE_var (μ := true) (pv 1)) (dE_tup (dA_nil (μ := true))) (nomark _))) (nW_and1 (nT_cmp o_gt (nE_draw C__law_next (hr.mono (by omega)) (by rfl) (pv 0) (nA_cons (nE_pure (dE_c (μ := true) pe_int)) nA_nil)) (nE_pure (dE_c (μ := true) pe_int)) (nomark _))))))
    (nSs_cons (nS_asg (K := K) (p := .nm 2) (ps_set (i := 2) sc_law_spoilt.nd rfl (.inl rfl) (nE_draw C__law_next (hr.mono (by omega)) (by rfl) (pv 0) (nA_cons (nE_pure (dE_callB c_len (by rfl) m_len (by decide +kernel) (dA_cons (dE_var (μ := true) (pv 1)) (dA_nil (μ := true))))) nA_nil))))
  (nSs_one (nS_ret (ps_ret (nE_op o_addX (nE_op o_addX (nE_pure (dE_slX (dE_var (μ := true) (pv 1)) dO_none (dO_some (dE_var (μ := true) (pv 2))))) (nE_tup (nA_cons (nE_draw C__law_spoilt (hr.mono (by omega)) (by rfl) (pv 0) (nA_cons (nE_pure (dE_ix (dE_var (μ := true) (pv 1)) (dE_var (μ := true) (pv 2)))) nA_nil)) nA_nil))) (nE_pure (dE_slX (dE_var (μ := true) (pv 1)) (dO_some (dE_op o_addX (dE_var (μ := true) (pv 2)) (dE_c (μ := true) pe_int))) dO_none)))))))
    nSs_nil)
  (nSs_cons (nS_asg (K := K) (p := .nm 3) (ps_set (i := 3) sc_law_spoilt.nd rfl (.inl rfl) (nE_pure (dE_lst (dA_cons (dE_c (μ := true) pe_non) (dA_cons (dE_c (μ := true) pe_bl) (dA_cons (dE_c (μ := true) pe_int) (dA_cons (dE_neg (dE_c (μ := true) pe_int)) (dA_cons (dE_c (μ := true) pe_int) (dA_cons (dE_c (μ := true) pe_str) (dA_cons (dE_c (μ := true) pe_str) (dA_cons (dE_tup (dA_nil (μ := true))) (dA_cons (dE_tup (dA_cons (dE_var (μ := true) (pv 1)) (dA_nil (μ := true)))) (dA_cons (dE_tup (dA_cons (dE_var (μ := true) (pv 1)) (dA_cons (dE_var (μ := true) (pv 1)) (dA_nil (μ := true))))) (dA_cons (dE_c (μ := true) pe_str) (dA_cons (dE_op o_shl (dE_c (μ := true) pe_int) (dE_c (μ := true) pe_int)) (dA_nil (μ := true))))))))))))))))))
  (nSs_cons (nS_asg (K := K) (p := .nm 3) (ps_set (i := 3) sc_law_spoilt.nd rfl (.inl rfl) (nE_pure (dE_op o_addX (dE_var (μ := true) (pv 3)) (dE_lst (dA_cons (dE_c (μ := true) pe_int) (dA_cons (dE_c (μ := true) pe_int) (dA_cons (dE_c (μ := true) pe_int) (dA_cons (dE_c (μ := true) pe_int) (dA_cons (dE_c (μ := true) pe_int) (dA_cons (dE_ds1 (dE_c (μ := true) pe_str) (dE_c (μ := true) pe_int)) (dA_cons (dE_tup (dA_cons (dE_dic0 (μ := true)) (dA_nil (μ := true)))) (dA_cons (dE_lst (dA_cons (dE_c (μ := true) pe_int) (dA_nil (μ := true)))) (dA_nil (μ := true)))))))))))))))
  (nSs_cons (nS_if (nT_pure (dT_val (dE_isi (dE_var (μ := true) (pv 1)) (pe_bltn (v := .ty "tuple") (by rfl) m_tuple (by decide +kernel) rfl) (by rfl) m_isinstance (by decide +kernel))))
    (nSs_one (nS_asg (K := K) (p := .nm 3) (ps_set (i := 3) sc_law_spoilt.nd rfl (.inl rfl) (nE_pure (dE_op o_addX (dE_var (μ := true) (pv 3)) (dE_lst (dA_cons (dE_slX (dE_var (μ := true) (pv 1)) (dO_some (dE_c (μ := true) pe_int)) dO_none) (dA_cons (dE_op o_addX (dE_var (μ := true) (pv 1)) (dE_slX (dE_var (μ := true) (pv 1)) dO_none (dO_some (dE_c (μ := true) pe_int)))) (dA_cons (dE_rev (dE_var (μ := true) (pv 1))) (dA_nil (μ := true)))))))))))
    (nSs_one (nS_if (nT_pure (dT_val (dE_cl C__law_whole (hr.mono (by omega)) (by rfl) (dA_cons (dE_var (μ := true) (pv 1)) (dA_nil (μ := true))))))
    (nSs_one (nS_asg (K := K) (p := .nm 3) (ps_set (i := 3) sc_law_spoilt.nd rfl (.inl rfl) (nE_pure (dE_op o_addX (dE_var (μ := true) (pv 3)) (dE_lst (dA_cons (dE_op o_addX (dE_var (μ := true) (pv 1)) (dE_c (μ := true) pe_int)) (dA_cons (dE_op o_subX (dE_var (μ := true) (pv 1)) (dE_c (μ := true) pe_int)) (dA_cons (dE_cmp (o_eq hr.units) (dE_var (μ := true) (pv 1)) (dE_c (μ := true) pe_int) (nomark _)) (dA_nil (μ := true)))))))))))
    (nSs_one (nS_if (nT_pure (dT_val (dE_isi (dE_var (μ := true) (pv 1)) (pe_bltn (v := .ty "str") (by rfl) m_str (by decide +kernel) rfl) (by rfl) m_isinstance (by decide +kernel))))
    (nSs_one (nS_asg (K := K) (p := .nm 3) (ps_set (i := 3) sc_law_spoilt.nd rfl (.inl rfl) (nE_pure (dE_op o_addX (dE_var (μ := true) (pv 3)) (dE_lst (dA_cons (dE_op o_addX (dE_var (μ := true) (pv 1)) (dE_c (μ := true) pe_str)) (dA_cons (dE_slX (dE_var (μ := true) (pv 1)) (dO_some (dE_c (μ := true) pe_int)) dO_none) (dA_cons (dE_slX (dE_var (μ := true) (pv 1)) dO_none (dO_some (dE_c (μ := true) pe_int))) (dA_nil (μ := true)))))))))))
    nSs_nil)))))
  (nSs_one (nS_ret (ps_ret (nE_ix (nE_pure (dE_var (μ := true) (pv 3))) (nE_draw C__law_next (hr.mono (by omega)) (by rfl) (pv 0) (nA_cons (nE_pure (dE_callB c_len (by rfl) m_len (by decide +kernel) (dA_cons (dE_var (μ := true) (pv 3)) (dA_nil (μ := true))))) nA_nil)))))))))), fun ds b Q l h => ?_⟩
  obtain ⟨⟨x, m, rfl, hm, hx⟩, hb, q⟩ := h
  let R : Option LV → Rho := fun c => [some .pool, some (.dat x), none, c]
  refine wIfTail (fun b' => b ≤ b' + 1) (fun b0 h0 => ?_) (fun base => ?_)
  · have fin : ∀ L : List D, (∀ d ∈ L, SpW x d) → 0 < L.length → L.length ≤ 100 → (swRet (w2 (wP (eVar 3)) (wCall 0 1 gNext (wCons (wP (eCall lenD (aCons (eVar 3) aNil))) wNil)) ixD)).w (R (some (.dat (.list L)))) b0 (TellsN Q) := fun L hL l0 l1 => by
      refine ⟨.list L, rfl, wNext (m := L.length) rfl rfl (by omega) (by omega) (by omega) fun v n' v0 v1 hn => ?_⟩
      obtain ⟨d, hd, dm, _⟩ := atI_in (xs := L) v0 v1
      exact ⟨d, hd, q d n' ⟨x, rfl, hL d dm⟩ (by omega)⟩
    have all : ∀ {L : List D}, (∀ d ∈ L, SpW x d) → ∀ d ∈ spA x ++ spB ++ L, SpW x d := fun {L} h d hd => by
      rcases List.mem_append.mp hd with hd | hd
      · rcases List.mem_append.mp hd with hd | hd
        · exact spA_all d hd
        · exact spB_all d hd
      · exact h d hd
    refine ⟨.list (spA x), rfl, R (some (.dat (.list (spA x)))), rfl, ?_⟩
    refine ⟨.list (spA x ++ spB), rfl, R (some (.dat (.list (spA x ++ spB)))), rfl, ?_⟩
    have none_ : (swRet (w2 (wP (eVar 3)) (wCall 0 1 gNext (wCons (wP (eCall lenD (aCons (eVar 3) aNil))) wNil)) ixD)).w (R (some (.dat (.list (spA x ++ spB))))) b0 (TellsN Q) := fin _ (fun d hd => all (L := []) (fun d h => nomatch h) d (by rw [List.append_nil]; exact hd)) (by show 0 < 20; decide) (by show 20 ≤ 100; decide)
    cases x with
    | tuple xs =>
      have xl : xs.length ≤ 75 := Nat.le_trans hx.1 (by omega)
      let L : List D := [.tuple (xs.drop 1), .tuple (xs ++ xs.take 1), .tuple xs.reverse]
      refine ⟨true, ev_oB (isiV rfl (isi_tuple _)), ?_⟩
      refine ⟨.list (spA (.tuple xs) ++ spB ++ L), ?_, R (some (.dat (.list (spA (.tuple xs) ++ spB ++ L)))), rfl, fin _ (all fun d hd => ?_) (by show 0 < 23; decide) (by show 23 ≤ 100; decide)⟩
      · refine ev_e2 (a := .list (spA (.tuple xs) ++ spB)) (b := .list L) rfl (ev_lstX (ev_cons ?_ (ev_cons ?_ (ev_cons rfl rfl))) (show 3 ≤ 1000 by decide)) (addX_l9 (by show 20 + 3 ≤ 1000; decide))
        · exact ev_slX9 (d := .tuple xs) rfl rfl rfl (by show some (PyData.tuple (cutD xs (some 1) none)) = _; rw [cut1])
        · refine ev_e2 (a := .tuple xs) (b := .tuple (xs.take 1)) rfl (ev_slX9 (d := .tuple xs) (h := some ((1 : Nat) : Int)) rfl rfl rfl (by show some (PyData.tuple (cutD xs none (some ((1 : Nat) : Int)))) = _; rw [cut_take9])) (addX_t9 (by rw [List.length_take]; omega))
      · simp only [L, List.mem_cons, List.not_mem_nil, or_false] at hd
        rcases hd with rfl | rfl | rfl
        · exact sw_drop
        · exact sw_first
        · exact sw_rev
    | int i =>
      have ib : i.natAbs < 10 ^ 30 := big30 (by omega) hx
      let L : List D := [.int (i + 1), .int (i - 1), .bool (PyData.eqv (.int i) (.int 1))]
      refine ⟨false, ev_oB (isiV rfl (isi_tuple _)), ⟨true, ev_oB (ev_call (ds := [.int i]) rfl rfl rfl), ?_⟩⟩
      refine ⟨.list (spA (.int i) ++ spB ++ L), rfl, R (some (.dat (.list (spA (.int i) ++ spB ++ L)))), rfl, fin _ (all fun d hd => ?_) (by show 0 < 23; decide) (by show 23 ≤ 100; decide)⟩
      simp only [L, List.mem_cons, List.not_mem_nil, or_false] at hd
      rcases hd with rfl | rfl | rfl
      · exact sw_int (i := i) (fun _ _ _ h => h) ib (by omega)
      · exact sw_int (i := i) (fun _ _ _ h => h) ib (by omega)
      · exact sw_bool
    | str z =>
      have zl : z.length ≤ 120 := Nat.le_trans hx.2 (by omega)
      let L : List D := [.str (z ++ Str.ofString "a"), .str (cutS z (some 1) none), .str (cutS z none (some 1))]
      refine ⟨false, ev_oB (isiV rfl (isi_tuple _)), ⟨false, ev_oB (ev_call (ds := [.str z]) rfl rfl rfl), ⟨true, ev_oB (isiV rfl (isi_str _)), ?_⟩⟩⟩
      refine ⟨.list (spA (.str z) ++ spB ++ L), ?_, R (some (.dat (.list (spA (.str z) ++ spB ++ L)))), rfl, fin _ (all fun d hd => ?_) (by show 0 < 23; decide) (by show 23 ≤ 100; decide)⟩
      · refine ev_e2 (a := .list (spA (.str z) ++ spB)) (b := .list L) rfl (ev_lstX (ev_cons ?_ (ev_cons ?_ (ev_cons ?_ rfl))) (show 3 ≤ 1000 by decide)) (addX_l9 (by show 20 + 3 ≤ 1000; decide))
        · exact ev_e2 (a := .str z) (b := .str (Str.ofString "a")) rfl rfl (addX_s9 (by have : (Str.ofString "a").length = 1 := rfl; omega))
        · exact ev_slX9 (d := .str z) (l := some 1) rfl rfl rfl rfl
        · exact ev_slX9 (d := .str z) (h := some 1) rfl rfl rfl rfl
      · have sub : ∀ a b : Option Int, SpW (.str z) (.str (cutS z a b)) := fun a b => sw_str (fun c hc => .inl (by
          unfold cutS at hc
          exact List.mem_of_mem_drop (List.mem_of_mem_take (by simpa using hc)))) (Nat.le_trans (cutS_length _ _ _) (by omega))
        simp only [L, List.mem_cons, List.not_mem_nil, or_false] at hd
        rcases hd with rfl | rfl | rfl
        · refine sw_str (fun c hc => ?_) (by rw [s_len, s_app, List.length_append, ← s_len, ← s_len]; have : (Str.ofString "a").length = 1 := rfl; omega)
          rw [s_app] at hc
          rcases List.mem_append.mp hc with h | h
          · exact .inl h
          · exact .inr ((show ∀ c ∈ (Str.ofString "a").cps.toList, c < 1114112 by decide +kernel) c h)
        · exact sub _ _
        · exact sub _ _
    | bool t =>
      refine ⟨false, ev_oB (isiV rfl (isi_tuple _)), ⟨false, ev_oB (ev_call (ds := [.bool t]) rfl rfl rfl), ⟨false, ev_oB (isiV rfl (isi_str _)), none_⟩⟩⟩
    | none =>
      refine ⟨false, ev_oB (isiV rfl (isi_tuple _)), ⟨false, ev_oB (ev_call (ds := [.none]) rfl rfl rfl), ⟨false, ev_oB (isiV rfl (isi_str _)), none_⟩⟩⟩
    | list xs =>
      refine ⟨false, ev_oB (isiV rfl (isi_tuple _)), ⟨false, ev_oB (ev_call (ds := [.list xs]) rfl rfl rfl), ⟨false, ev_oB (isiV rfl (isi_str _)), none_⟩⟩⟩
    | dict xs =>
      refine ⟨false, ev_oB (isiV rfl (isi_tuple _)), ⟨false, ev_oB (ev_call (ds := [.dict xs]) rfl rfl rfl), ⟨false, ev_oB (isiV rfl (isi_str _)), none_⟩⟩⟩
  · by_cases ht : ∃ xs, x = .tuple xs
    · obtain ⟨xs, rfl⟩ := ht
      have xl : xs.length ≤ 75 := Nat.le_trans hx.1 (by omega)
      by_cases ne : xs = []
      · subst ne
        exact ⟨true, ev_oB (isiV rfl (isi_tuple _)), ⟨false, rfl, base b (by omega)⟩⟩
      · have x0 : 0 < xs.length := List.length_pos_iff.mpr ne
        have e0 : (!xs.isEmpty) = true := by
          cases xs with
          | nil => exact (ne rfl).elim
          | cons _ _ => rfl
        refine ⟨true, ev_oB (isiV rfl (isi_tuple _)), ⟨true, by show some (!xs.isEmpty) = some true; rw [e0], ?_⟩⟩
        refine wNext (m := 5) rfl rfl (by decide) (by decide) (by omega) fun v b1 v0 v1 h1 => ⟨.int 0, rfl, _, rfl, _, rfl, ?_⟩
        refine iteB (c := decide (v > 0)) (fun hv => ?_) (fun hv => ?_)
        · refine wNext (m := xs.length) rfl rfl (by omega) (by omega) (by omega) fun v2 b2 v20 v21 h2 => ?_
          obtain ⟨j, rfl⟩ := Int.eq_ofNat_of_zero_le v20
          have hj : j < xs.length := by omega
          obtain ⟨y, hy⟩ : ∃ y, xs[j]? = some y := ⟨_, List.getElem?_eq_getElem hj⟩
          refine ⟨[some .pool, some (.dat (.tuple xs)), some (.dat (.int j)), none], rfl, ?_⟩
          refine ⟨.tuple (xs.take j), ev_slX9 (d := .tuple xs) (h := some (j : Int)) rfl rfl rfl (by show some (PyData.tuple (cutD xs none (some (j : Int)))) = _; rw [cut_to (by omega)]), rfl, y, atI_nat hy, _, rfl, rfl, ⟨y, m, rfl, hm, hx.2 y (List.mem_of_getElem? hy)⟩, by omega, fun d n' ⟨y', e', sp⟩ hn => ?_⟩
          cases e'
          refine ⟨_, rfl, .tuple [d], rfl, .tuple (xs.take j ++ [d]), addX_t9 (by rw [List.length_take]; simp; omega), .tuple (xs.drop (j + 1)), ?_, .tuple (xs.set j d), ?_, ?_⟩
          · exact ev_slX9 (d := .tuple xs) (l := some ((j : Int) + 1)) rfl rfl rfl (by show some (PyData.tuple (cutD xs (some ((j : Int) + 1)) none)) = _; rw [show ((j : Int) + 1) = ((j + 1 : Nat) : Int) by omega, cut_fr (by omega)])
          · rw [addX_t9 (by rw [List.length_append, List.length_take, List.length_drop]; simp; omega), List.set_eq_take_append_cons_drop, if_pos hj, List.append_assoc]
            rfl
          · exact q _ n' ⟨_, rfl, sw_set hy sp⟩ (by omega)
        · exact base b1 (by omega)
    · refine ⟨false, ev_oB (isiV rfl ((isi_tuple _).trans ?_)), base b (by omega)⟩
      cases x <;> first | rfl | exact (ht ⟨_, rfl⟩).elim
theorem ok_neverN {k n : Nat} {f : Addr} {fd : FuncData} {ps : List Str} {G : GF} (hg : ∀ ds b Q, ¬ G.f ds b Q) : FnOk P w K mg base CX0 k f fd ps (spN n G) :=
  ⟨fun vs H Q E h => by
    obtain ⟨g, M, ws, ds, b, _, _, _, _, _, _, z⟩ := h
    exact (hg _ _ _ z).elim, fun A outer s H args us vs Q E _ _ _ _ h => by
    obtain ⟨g, M, ws, ds, b, _, _, _, _, _, _, z⟩ := h
    exact (hg _ _ _ z).elim⟩
theorem ok_spoilt {f : Addr} {fd : FuncData} (F : Fun K "_law_spoilt" "_law_spoilt" s_law_spoilt f fd) (b : Binds K fd ["_law_drawn", "_law_thing"] []) (g : mg "_law_spoilt" = some (.ref f)) (m_isinstance : mg "isinstance" = none) (m_tuple : mg "tuple" = none) (m_len : mg "len" = none) (m_str : mg "str" = none)
    (C__law_next : Cl P w K mg base 1 "_law_next" ["_law_drawn", "_law_many"] (spN 1 gNext)) (C__law_whole : Cl P w K mg base 1 "_law_whole" ["_law_thing"] (spD 1 sWho)) :
    FnOk P w K mg base CX0 13 f fd ["_law_drawn", "_law_thing"] (spN 1 (gSpW 12)) := by
  have st : ∀ n : Nat, FnOk P w K mg base CX0 (1 + n) f fd ["_law_drawn", "_law_thing"] (spN 1 (gSpW n)) := by
    intro n
    induction n with
    | zero =>
      refine ok_neverN fun ds b Q h => ?_
      obtain ⟨⟨x, m, _, _, z⟩, _⟩ := h
      exact z
    | succ n ih => exact ok_spoiltS (Nat.le_add_right 1 n) F m_isinstance m_tuple m_len m_str C__law_next C__law_whole ⟨f, fd, ih, g, F.kp, b⟩
  exact st 12
end
end Dl
namespace Dl
open PySem PySem.Spec PyProof.Rows L2 Rt Dx
/-! ### a good wish has no fault, and what the law's things weigh -/
def Lf9 (d : D) : Prop := Bw 0 1 d ∧ d.weight ≤ 100
def El (d : D) : Prop := Bw 2 7 d ∧ d.weight ≤ 7000
theorem lf9_int {i : Int} (h : i.natAbs < 1000) : Lf9 (.int i) := ⟨Nat.le_trans (Nat.le_of_lt h) (by decide), wInt (Nat.lt_trans h (by decide))⟩
theorem lf9_bool {b : Bool} : Lf9 (.bool b) := ⟨trivial, Nat.zero_le _⟩
theorem lf9_str {z : Str} (h : PyData.strOk z = true) (hl : z.length ≤ 20) : Lf9 (.str z) := ⟨⟨h, hl⟩, Nat.le_trans hl (by decide)⟩
theorem row_b {ds : List D} (hl : ds.length ≤ 5) (h : ∀ d ∈ ds, Lf9 d) : Bw 0 2 (.tuple ds) ∧ (PyData.tuple ds).weight ≤ 505 := ⟨⟨Nat.le_trans hl (by decide), fun d hd => (h d hd).1⟩, by
  have := wAll_le (c := 100) (a := ds) fun d hd => (h d hd).2
  have h2 : ds.length * (100 + 1) ≤ 5 * (100 + 1) := Nat.mul_le_mul_right _ hl
  show PyData.weightAll ds ≤ 505
  omega⟩
theorem rows_b {ds : List D} (hl : ds.length ≤ 5) (h : ∀ d ∈ ds, Bw 0 2 d ∧ d.weight ≤ 303) : Bw 0 3 (.tuple ds) ∧ (PyData.tuple ds).weight ≤ 1520 := ⟨⟨Nat.le_trans hl (by decide), fun d hd => (h d hd).1⟩, by
  have := wAll_le (c := 303) (a := ds) fun d hd => (h d hd).2
  have h2 : ds.length * (303 + 1) ≤ 5 * (303 + 1) := Nat.mul_le_mul_right _ hl
  show PyData.weightAll ds ≤ 1520
  omega⟩
theorem El.of {m k : Nat} {d : D} (hm : m ≤ 2) (hk : k ≤ 7) (h : Bw m k d) (hw : d.weight ≤ 7000) : El d := ⟨h.up hm hk, hw⟩
theorem el_one {ds : List D} (hl : ds.length ≤ 5) (h : ∀ d ∈ ds, Lf9 d) : El (.tuple [.tuple ds]) := by
  obtain ⟨h1, h2⟩ := row_b hl h
  refine El.of (m := 0) (k := 3) (by decide) (by decide) ⟨by show 1 ≤ 70 + 0; decide, fun d hd => by rw [List.mem_singleton.mp hd]; exact h1⟩ ?_
  show (PyData.tuple ds).weight + 1 + 0 ≤ 7000
  omega
theorem pt_b {X : Wd} {q : Pt} (hX : X.ok) (h : ItOk X q) : Bw 0 2 q.d ∧ q.d.weight ≤ 303 := by
  obtain ⟨k1, k2⟩ := hX.ks q.k h.k
  have l0 := h.l0
  have lg := h.lg
  have g1 := h.g1
  have a := lf9_str k1 k2
  have b : Lf9 (.int q.l) := lf9_int (by omega)
  have c : Lf9 (.int q.g) := lf9_int (by omega)
  refine ⟨⟨by show 3 ≤ 70 + 0; decide, fun d hd => ?_⟩, ?_⟩
  · simp only [List.mem_cons, List.not_mem_nil, or_false] at hd
    rcases hd with rfl | rfl | rfl
    · exact a.1
    · exact b.1
    · exact c.1
  · have a2 := a.2
    have b2 := b.2
    have c2 := c.2
    show (PyData.str q.k).weight + 1 + ((PyData.int q.l).weight + 1 + ((PyData.int q.g).weight + 1 + 0)) ≤ 303
    omega
theorem ws_b {X : Wd} {ps : List Pt} (h : WsOk X ps) : Bw 0 3 (wsD ps) ∧ (wsD ps).weight ≤ 1520 := rows_b (by rw [List.length_map]; have := h.n4; omega) fun d hd => by
  obtain ⟨q, hq, rfl⟩ := List.mem_map.mp hd
  exact pt_b h.x (h.i q hq)
theorem it_none {X : Wd} {q : Pt} (h : ItOk X q) : itF X.ks q.d = none := by
  have k : kIn X.ks (.str q.k) = true := by
    refine List.any_eq_true.mpr ⟨.str q.k, List.mem_map.mpr ⟨q.k, h.k, rfl⟩, ?_⟩
    rw [eqv_str9, decide_eq_true rfl]
  have l0 := h.l0
  have lg := h.lg
  have g1 := h.g1
  have h1 : isFrom 0 60 (.int q.l) = true := by
    show (decide (0 ≤ q.l) && decide (q.l ≤ 60)) = true
    rw [decide_eq_true l0, decide_eq_true (by omega)]
    rfl
  have h2 : isFrom q.l 60 (.int q.g) = true := by
    show (decide (q.l ≤ q.g) && decide (q.g ≤ 60)) = true
    rw [decide_eq_true lg, decide_eq_true g1]
    rfl
  show (if kIn X.ks (.str q.k) = true then (if isFrom 0 60 (.int q.l) = true then (if isFrom (intW (.int q.l)) 60 (.int q.g) = true then none else some (Str.ofString "greatest")) else some (Str.ofString "least")) else some (Str.ofString "kind")) = none
  rw [if_pos k, if_pos h1]
  exact if_pos h2
theorem go_none {X : Wd} : ∀ {ps : List Pt} {i : Nat}, (∀ q ∈ ps, ItOk X q) → wfGo X.ks i (ps.map Pt.d) = none
  | [], _, _ => rfl
  | q :: ps, i, h => by
    show (match itF X.ks q.d with | some z => some (((i : Nat) : Int), z) | none => wfGo X.ks (i + 1) (ps.map Pt.d)) = none
    rw [it_none (h q List.mem_cons_self)]
    exact go_none fun q hq => h q (List.mem_cons_of_mem _ hq)
theorem ws_none {X : Wd} {ps : List Pt} (h : WsOk X ps) : wfO X.ks (wsD ps) = none := by
  show (if 1 ≤ (ps.map Pt.d).length ∧ (ps.map Pt.d).length ≤ 4 then wfGo X.ks 0 (ps.map Pt.d) else some (-1, Str.ofString "wish")) = none
  rw [if_pos (by rw [List.length_map]; exact ⟨h.n1, h.n4⟩)]
  exact go_none h.i
theorem dp_f9 {ks : List Str} {d : D} : dpB 6 (fD9 (wfO ks d)) := by
  cases h : wfO ks d with
  | none => exact trivial
  | some p =>
    obtain ⟨i, z⟩ := p
    refine ⟨by show 2 ≤ 2000000; decide, fun d hd => ?_⟩
    simp only [List.mem_cons, List.not_mem_nil, or_false] at hd
    rcases hd with rfl | rfl
    · exact trivial
    · exact (wfO_z h).1
theorem El.repr {d : D} (h : El d) : reprD [d] = some (.str d.shown) := h.1.repr (by decide) (by decide) (Nat.le_trans h.2 (by decide))
end Dl
namespace Dl
open PySem PySem.Spec PyProof.Rows L2 Rt
section
variable {X : Cx}
/-! ### isinstance of a caught error, a tuple of classes -/
def rIsT (K : PySem.W.Frag) (D a : Addr) : List V → Hp → VK → Prop := fun xs H Q => ∃ (t : Addr) (cs : List V) (cvs : List Value) (b : Bool), xs = [.ref a, .ref t] ∧ SqT K H t cs ∧ (∀ us, Vals cs us → us = cvs) ∧ PySem.W.kitAny K (.ref D) cvs = some b ∧ Q (.bl b) H
theorem call_isT {X : Cx} {a D : Addr} {oe : Obj} {pn : List (Addr × Obj)} (C : ExcC X.K D) (hz : Zc (.ref D) none oe) (hf : ∃ vs, oe.data = .fields vs) : CallR (X.suite a ((a, oe) :: pn)) (.builtin "isinstance") (rIsT X.K D a) := by
  intro pins s σ H xs us Q I r h
  obtain ⟨t, cs, cvs, b, rfl, ht, hcv, e, q⟩ := h
  cases r with
  | cons rx rr =>
    cases rr with
    | cons rt rr =>
      cases rr
      cases rx
      cases rt
      obtain ⟨its, r, ⟨⟨cls, dd, data, sl⟩, ho, hc, n, hd⟩, hs⟩ := I.tuple ht
      simp only at hc hd
      subst hc hd
      have ec := hcv _ r
      subst ec
      obtain ⟨hget, _⟩ := I.pin (a, oe) (List.mem_append.mpr (.inl List.mem_cons_self))
      obtain ⟨vs, hv⟩ := hf
      have J : PySem.W.InstAt s.heap a oe D none := by
        obtain ⟨oc, od, oda, osl⟩ := oe
        obtain ⟨h1, h2⟩ := hz
        dsimp only at h1 h2 hv
        subst h1 h2 hv
        exact ⟨hget, rfl, rfl, trivial⟩
      exact PySem.W.kia_tup (PySem.W.handS_kitx_exc C.hg C.hk C.hs C.hd C.ha C.hn C.ht C.hm) I.kIn J ho e (fun z => nomatch z) fun tk => ⟨.bl b, H, I.kept (t' := tk) fun _ _ z => z, rfl, q⟩
/-- a reading that also says something -/
theorem pss_if {st : List Stmt} {t : TS} {p : Prop} (h : p → PSs X st t) : PSs X st (fun D σ H => p ∧ t D σ H) := ⟨fun pins s σ H D I q => (h q.1).run pins s σ H D I q.2⟩
end
/-! ### defs that raise: .none stands for the error -/
def spX (C : Addr) (n : Nat) (g : List D → Option D) : Sp := fun vs H Q E => ∃ M ds d, Dom M H ∧ RpAll M H vs ds ∧ ds.length = n ∧ g ds = some d ∧ (d = .none → ∀ H', Same H H' → E (.ref C) none H') ∧ (d ≠ .none → ∀ v H', Same H H' → Rp M H' v d → Q v H')
theorem okFnX {P : Program} {w : World} {K : PySem.W.Frag} {mg : Str → Option Value} {base : Heap} {x qual : Str} {st : Stmt} {f C : Addr} {fd : FuncData} {N ps : List Str} {k n : Nat} {g : List D → Option D} (F : Fun K x qual st f fd) (S : FnScope N ps (defScope st)) (hn : n = ps.length)
    (walkN : ∀ (cdv : Value) (A : Around) (outer : List Env) (s : Shared) (H : Hp) (E : XK), Room k (A.deeper (envOfC qual (defScope st) s.heap.objs.size f cdv)) →
      ∃ fS, PSs (cxOf (L2.CX P w) P w K mg base N qual (defScope st) f cdv A outer s H E).nox (defBody st) (tS fS) ∧ ∀ ds d, ds.length = n → g ds = some d → d ≠ .none → ∃ o, fS (startR N.length ds) = some o ∧ Tells o d)
    (walkR : ∀ (cdv : Value) (A : Around) (outer : List Env) (s : Shared) (H : Hp) (E : XK), Room k (A.deeper (envOfC qual (defScope st) s.heap.objs.size f cdv)) →
      ∃ f0 c tr, PSs (cxOf (L2.CX P w) P w K mg base N qual (defScope st) f cdv A outer s H E) (defBody st) (tSeq (tS f0) (tSeq (tIfS (tT c) (fun _ _ H => E (.ref C) none H) tNext) tr)) ∧ ∀ ds, ds.length = n → g ds = some .none → ∃ ρ1, f0 (startR N.length ds) = some (.nx ρ1) ∧ c ρ1 = some true) :
    FnOk P w K mg base (L2.CX P w) (k + 1) f fd ps (spX C n g) := by
  refine F.okX S (fun vs H Q E h => ?_) (fun cdv A outer s H vs Q E hr h => ?_)
  · obtain ⟨M, ds, d, dm, r, l, _⟩ := h
    rw [r.len, l, hn]
  · obtain ⟨M, ds, d, dm, r, l, e, qE, q⟩ := h
    by_cases hd : d = .none
    · subst hd
      obtain ⟨f0, c, tr, hS, hw⟩ := walkR cdv A outer s H E hr
      obtain ⟨ρ1, e0, ec⟩ := hw ds l e
      refine ⟨_, hS, tS_iff.mpr ⟨M, H, _, .nx ρ1, r.start dm, e0, fun σ' H' R1 s1 => ?_⟩⟩
      exact ⟨M, H, ρ1, true, R1, ec, fun H2 s2 => qE rfl H2 (R1.sm.trans s2)⟩
    · obtain ⟨fS, hS, hw⟩ := walkN cdv A outer s H E hr
      obtain ⟨o, eo, t⟩ := hw ds d l e hd
      refine ⟨_, PSs.nox hS, tS_iff.mpr ⟨M, H, _, o, r.start dm, eo, ?_⟩⟩
      cases o with
      | nx ρ' => cases t; exact (hd rfl).elim
      | rt d' => cases t; exact fun v H' s r => q hd v H' s r
      | bk ρ' => exact t.elim
      | ct ρ' => exact t.elim
end Dl
namespace Dl
open PySem PySem.Spec PyProof.Rows L2 Rt
/-! ### an error with a dict of its own: isinstance -/
theorem hdC_some {K : PySem.W.Frag} {C : Addr} (h : PySem.W.hasDictIn K C = true) : (PySem.W.clsIn K C).isSome = true := by
  obtain ⟨cd, hc, _⟩ := PySem.W.any_some h
  rw [hc]
  rfl
section
variable {X : Cx} {a D dd : Addr} {oe : Obj} {pn : List (Addr × Obj)}
theorem inst_d {pins : List (Addr × Obj)} {σ : L2.St} {H : Hp} {s : Shared} {fs : List (Str × V)} (hz : Zc (.ref D) (some dd) oe) (hf : ∃ vs, oe.data = .fields vs) (I : L2.Inv (X.suite a ((a, oe) :: pn)) pins σ H s) (hd : H dd = some (.xd fs)) : ∃ od, PySem.W.InstAt s.heap a oe D (some od) := by
  obtain ⟨hget, _⟩ := I.pin (a, oe) (List.mem_append.mpr (.inl List.mem_cons_self))
  obtain ⟨vs, hv⟩ := hf
  have hx : ObjOk X.prog X.w H s.heap dd (.xd fs) := I.hok dd _ hd
  obtain ⟨mA, hns, hr⟩ := hx
  obtain ⟨od, ho, hl⟩ := lookIn_ns hns
  exact ⟨od, hget, hz.1, by unfold PySem.W.notCls; rw [hv] <;> rfl, by rw [hz.2]; exact ho⟩
def rIsD (K : PySem.W.Frag) (D a dd : Addr) : List V → Hp → VK → Prop := fun xs H Q => ∃ (c : V) (cv : Value) (b : Bool) (fs : List (Str × V)), xs = [.ref a, c] ∧ H dd = some (.xd fs) ∧ (∀ u, RelV c u → u = cv) ∧ PySem.W.kitOne K (.ref D) cv = some b ∧ Q (.bl b) H
theorem call_isD (C : ExcC X.K D) (hz : Zc (.ref D) (some dd) oe) (hf : ∃ vs, oe.data = .fields vs) : CallR (X.suite a ((a, oe) :: pn)) (.builtin "isinstance") (rIsD X.K D a dd) := by
  intro pins s σ H xs us Q I r h
  obtain ⟨c, cv, b, fs, rfl, hd, hcv, e, q⟩ := h
  cases r with
  | cons rx rr =>
    cases rr with
    | cons rt rr =>
      cases rr
      cases rx
      have ec := hcv _ rt
      subst ec
      obtain ⟨od, J⟩ := inst_d hz hf I hd
      exact PySem.W.kia_one (PySem.W.kitx_exc (hdC_some C.hd) C.hg C.hk C.hs C.ha C.hn C.ht C.hm) I.kIn J e (fun z => nomatch z) fun tk => ⟨.bl b, H, I.kept (t' := tk) fun _ _ z => z, rfl, q⟩
def rIsDT (K : PySem.W.Frag) (D a dd : Addr) : List V → Hp → VK → Prop := fun xs H Q => ∃ (t : Addr) (cs : List V) (cvs : List Value) (b : Bool) (fs : List (Str × V)), xs = [.ref a, .ref t] ∧ H dd = some (.xd fs) ∧ SqT K H t cs ∧ (∀ us, Vals cs us → us = cvs) ∧ PySem.W.kitAny K (.ref D) cvs = some b ∧ Q (.bl b) H
theorem call_isDT (C : ExcC X.K D) (hz : Zc (.ref D) (some dd) oe) (hf : ∃ vs, oe.data = .fields vs) : CallR (X.suite a ((a, oe) :: pn)) (.builtin "isinstance") (rIsDT X.K D a dd) := by
  intro pins s σ H xs us Q I r h
  obtain ⟨t, cs, cvs, b, fs, rfl, hd, ht, hcv, e, q⟩ := h
  cases r with
  | cons rx rr =>
    cases rr with
    | cons rt rr =>
      cases rr
      cases rx
      cases rt
      obtain ⟨its, r, ⟨⟨cls, dd', data, sl⟩, ho, hc, n, hd'⟩, hs⟩ := I.tuple ht
      simp only at hc hd'
      subst hc hd'
      have ec := hcv _ r
      subst ec
      obtain ⟨od, J⟩ := inst_d hz hf I hd
      exact PySem.W.kia_tup (PySem.W.kitx_exc (hdC_some C.hd) C.hg C.hk C.hs C.ha C.hn C.ht C.hm) I.kIn J ho e (fun z => nomatch z) fun tk => ⟨.bl b, H, I.kept (t' := tk) fun _ _ z => z, rfl, q⟩
end
/-! ### its making: __init__(self, n, w) sets both -/
def spI (K : PySem.W.Frag) (C : Addr) (f1 f2 : Str) : Sp := fun vs H Q _ => ∃ (a : Addr) (y z : V), vs = [.ref a, y, z] ∧ OexC K C ∧ PySem.W.findIn K (.ref C) f1 = some none ∧ PySem.W.findIn K (.ref C) f2 = some none ∧ H a = some (exo a C none) ∧ ∀ dx, H dx = none → dx ≠ a → Q .non (upd (upd (upd H dx (exd dx [(f1, y)])) a (exo a C (some dx))) dx (exd dx [(f2, z), (f1, y)]))
def clsFn : Stmt → Nat → Stmt
  | .ClassDef _ _ _ b _ _ _ _ _ _ _, i => b.getD i (.Pass ⟨0, 0, 0, 0⟩)
  | s, _ => s
/-! ### defs that raise it -/
def spY (C : Addr) (f1 f2 : Str) (n : Nat) (g : List D → Option D) : Sp := fun vs H Q E => ∃ M ds d, Dom M H ∧ RpAll M H vs ds ∧ ds.length = n ∧ g ds = some d ∧
  (∀ i z, d = .tuple [.str (Str.ofString "refused"), .int i, .str z] → ∀ H' dd, Same H H' → H dd = none → H' dd = some (.xd [(f2, .str z), (f1, .int i)]) → E (.ref C) (some dd) H') ∧
  (∀ t, d = .tuple [.str (Str.ofString "told"), t] → ∀ v H', Same H H' → Rp M H' v t → Q v H')
end Dl
namespace Dl
open PySem PySem.Spec PyProof.Rows L2 Rt Dx
abbrev s_bw_init : Stmt := clsFn (topS 10) 0
theorem sc_bw_init : FnScope ["self", "item", "word"] ["self", "item", "word"] (defScope s_bw_init) := ⟨rfl, rfl, rfl, by decide +kernel, rfl, by decide +kernel, by decide +kernel⟩
/-- what the written part says of BadWish -/
structure ExW (K : PySem.W.Frag) (mg : Str → Option Value) (C fI : Addr) : Prop where
  g : mg "BadWish" = some (.ref C)
  o : OexC K C
  i : PySem.W.findIn K (.ref C) "__init__" = some (some (.ref fI))
  t : PySem.W.typeIn K (.ref fI) = some (.type "function")
  n1 : PySem.W.findIn K (.ref C) "item" = some none
  n2 : PySem.W.findIn K (.ref C) "word" = some none
/-- a def that refuses what is no wish -/
def spZ (C : Addr) (n : Nat) : Sp := fun vs H Q E => ∃ (M : Addr → Prop) (X : Wd) (d : D) (r : List D) (i : Int) (z : Str), Dom M H ∧ RpAll M H vs (X.d :: d :: r) ∧ r.length + 2 = n ∧ X.ok ∧ wfO X.ks d = some (i, z) ∧
  ∀ H' dd, Same H H' → H dd = none → H' dd = some (.xd [(Str.ofString "word", .str z), (Str.ofString "item", .int i)]) → E (.ref C) (some dd) H'
theorem spZ_len {C : Addr} {n : Nat} {vs : List V} {H : Hp} {Q : VK} {E : XK} (h : spZ C n vs H Q E) : vs.length = n := by
  obtain ⟨M, X, d, r, i, z, dm, ra, l, _⟩ := h
  rw [ra.len]
  exact l
theorem RpAll.c1 {M : Addr → Prop} {H : Hp} {vs : List V} {d : D} {ds : List D} (h : RpAll M H vs (d :: ds)) : ∃ v vs', vs = v :: vs' ∧ Rp M H v d ∧ RpAll M H vs' ds := by
  cases h with
  | cons h1 h2 => exact ⟨_, _, rfl, h1, h2⟩
theorem RpAll.c0 {M : Addr → Prop} {H : Hp} {vs : List V} (h : RpAll M H vs []) : vs = [] := by
  cases h
  rfl
theorem ev_asg1 {p : Pat} {f : EF} {ρ ρ' : Rho} {d : D} (hf : f ρ = some d) (hb : bindP p d ρ = some ρ') : sAsg p f ρ = some (.nx ρ') := by
  unfold sAsg
  rw [hf]
  show (bindP p d ρ).map _ = _
  rw [hb]
  rfl
section
variable {P : Program} {w : World} {K : PySem.W.Frag} {mg : Str → Option Value} {base : Heap}
theorem ok_init {f C : Addr} {fd : FuncData} (F0 : Fun K "__init__" "BadWish.__init__" s_bw_init f fd) : FnOk P w K mg base CX0 1 f fd ["self", "item", "word"] (spI K C "item" "word") := by
  refine F0.ok sc_bw_init (fun vs H Q E h => ?_) (fun cdv A outer s H vs Q E hr h => ?_)
  · obtain ⟨a, y, z, rfl, _⟩ := h
    rfl
  · obtain ⟨a, y, z, rfl, T, h1, h2, ha, q⟩ := h
    refine ⟨_, pss_cons (ps_ost (pv 0) (pv 1)) (pss_one (ps_ost (pv 0) (pv 2))), ?_⟩
    exact ⟨y, rfl, .ref a, rfl, a, C, rfl, T, h1, .inl ⟨ha, fun dx hd hne => ⟨z, rfl, .ref a, rfl, a, C, rfl, T, h2, .inr ⟨dx, [("item", y)], upd_same, by rw [upd_ne hne, upd_same], (by show 1 ≤ 900; decide), q dx hd hne⟩⟩⟩⟩
theorem ok_refuse {f C fI : Addr} {fd fdI : FuncData} (F : Fun K "refuse_no_wish" "refuse_no_wish" s_refuse_no_wish f fd) (T : ExW K mg C fI) (FI : FnOk P w K mg base CX0 1 fI fdI ["self", "item", "word"] (spI K C "item" "word")) (bI : Binds K fdI ["self", "item", "word"] []) (C_wishfault : Cl P w K mg base 4 "wishfault" ["world", "thing"] (spD 2 SWfA.f)) : FnOk P w K mg base (L2.CX P w) 5 f fd ["world", "thing"] (spZ C 2) := by
  refine F.okX sc_refuse_no_wish (fun vs H Q E h => spZ_len h) (fun cdv A outer s H vs Q E hr h => ?_)
  obtain ⟨M, X, d, r, i, z, dm, ra, l, hX, hw, qE⟩ := h
  have r0 : r = [] := List.length_eq_zero_iff.mp (by omega)
  subst r0
  obtain ⟨zo, zl⟩ := wfO_z hw
  have ef : SWfA.f [X.d, d] = some (.tuple [.int i, .str z]) := (Sem.of (S := SWfA) (x := (X, d)) hX).trans (congrArg some (show fD9 (wfO X.ks d) = _ by rw [hw]; rfl))
  let R : Option LV → Option LV → Rho := fun x y => [some (.dat X.d), some (.dat d), some (.dat (.tuple [.int i, .str z])), x, y]
  refine ⟨_, pss_cons (dS_asg (K := K) (p := .nm 2) (ps_set (i := 2) sc_refuse_no_wish.nd rfl (.inl rfl) (dE_cl C_wishfault (hr.mono (by omega)) (by rfl) (dA_cons (dE_var (μ := true) (pv 0)) (dA_cons (dE_var (μ := true) (pv 1)) (dA_nil (μ := true))))))) (pss_one (ps_if (dT_cmp o_isnot (dE_var (μ := true) (pv 2)) (dE_c (μ := true) pe_non) (nomark _)) (pss_cons (dS_asg (K := K) (p := (.tp (.cons (.nm 3) (.cons (.nm 4) .nil)))) (ps_asg (dE_var (μ := true) (pv 2)) (pg_tup (by rfl) (pgs_cons (pg_name (i := 3) sc_refuse_no_wish.nd rfl (.inl rfl)) (pgs_cons (pg_name (i := 4) sc_refuse_no_wish.nd rfl (.inl rfl)) pgs_nil))))) (pss_one (ps_raise rfl (takes_of rfl rfl rfl rfl) (pmk_oex T.o T.i T.t FI (hr.mono (by omega)) bI .nil pass0 (by rfl) T.g (pa_cons (pv 3) (pa_cons (pv 4) pa_nil)))))) pss_nil)), ?_⟩
  refine tS_iff.mpr ⟨M, H, _, .nx (R none none), ra.start dm, ev_asg1 (d := .tuple [.int i, .str z]) (ev_call (ds := [X.d, d]) rfl rfl ef) rfl, fun σ1 H1 R1 s1 => ?_⟩
  refine ⟨M, H, R none none, true, R1, ev_oB (ev_e2 (a := .tuple [.int i, .str z]) (b := .none) rfl rfl rfl), fun H2 s2 => ?_⟩
  refine tS_iff.mpr ⟨M, H, R none none, .nx (R (some (.dat (.int i))) (some (.dat (.str z)))), R1.mono s2, rfl, fun σ3 H3 R3 s3 => ?_⟩
  obtain ⟨v4, e4, r4⟩ := R3.dat 3 (.int i) rfl
  obtain ⟨v5, e5, r5⟩ := R3.dat 4 (.str z) rfl
  cases r4
  cases r5
  refine ⟨.int i, e4, .str z, e5, by show 2 ≤ 1000; decide, fun a ha => ⟨a, .int i, .str z, rfl, T.o, T.n1, T.n2, upd_same, fun dx hd hne => ?_⟩⟩
  rw [upd_ne hne] at hd
  have hd0 : H dx = none := by
    cases zz : H dx with
    | none => rfl
    | some o => rw [R3.sm _ _ zz] at hd; cases hd
  refine ⟨rfl, dx, [("word", .str z), ("item", .int i)], by rw [upd_ne hne.symm, upd_same], upd_same, hd, qE _ dx (fun b o eb => ?_) hd0 upd_same⟩
  have b1 : b ≠ dx := fun zz => by rw [zz, hd0] at eb; cases eb
  have b2 : b ≠ a := fun zz => by rw [zz] at eb; rw [R3.sm _ _ eb] at ha; cases ha
  rw [upd_ne b1, del_ne b2, upd_ne b1, upd_ne b2, upd_ne b1, upd_ne b2]
  exact R3.sm _ _ eb
theorem ok_d_comes {f f1 C : Addr} {fd fd1 : FuncData} (F : Fun K "comes" "comes" s_comes f fd) (F1 : FnOk P w K mg base (L2.CX P w) 5 f1 fd1 ["world", "thing"] (spZ C 2)) (g1 : mg "refuse_no_wish" = some (.ref f1)) (k1 : PySem.W.keepIn K (.ref f1) = true) (b1 : Binds K fd1 ["world", "thing"] []) : FnOk P w K mg base (L2.CX P w) 6 f fd ["world", "wish", "moment"] (spZ C 3) := by
  refine F.okX sc_comes (fun vs H Q E h => spZ_len h) (fun cdv A outer s H vs Q E hr h => ?_)
  obtain ⟨M, X, d, r, i, z, dm, ra, l, hX, hw, qE⟩ := h
  obtain ⟨v1, x1, rfl, r1, ra1⟩ := ra.c1
  obtain ⟨v2, x2, rfl, r2, ra2⟩ := ra1.c1
  refine ⟨_, pss_cons (ps_expr (pe_callS F1 (hr.mono (by omega)) (by rfl) g1 k1 b1 (fun σ => passAt (takes_of rfl rfl rfl rfl) σ) (pa_cons (pv 0) (pa_cons (pv 1) pa_nil)))) pss_never, ?_⟩
  exact ⟨v1, rfl, v2, rfl, M, X, d, [], i, z, dm, .cons r1 (.cons r2 .nil), rfl, hX, hw, fun H' dd sm h0 h1 => qE H' dd sm h0 h1⟩
theorem ok_d_first_wish {f f1 C : Addr} {fd fd1 : FuncData} (F : Fun K "first_wish" "first_wish" s_first_wish f fd) (F1 : FnOk P w K mg base (L2.CX P w) 5 f1 fd1 ["world", "thing"] (spZ C 2)) (g1 : mg "refuse_no_wish" = some (.ref f1)) (k1 : PySem.W.keepIn K (.ref f1) = true) (b1 : Binds K fd1 ["world", "thing"] []) : FnOk P w K mg base (L2.CX P w) 6 f fd ["world", "wish"] (spZ C 2) := by
  refine F.okX sc_first_wish (fun vs H Q E h => spZ_len h) (fun cdv A outer s H vs Q E hr h => ?_)
  obtain ⟨M, X, d, r, i, z, dm, ra, l, hX, hw, qE⟩ := h
  obtain ⟨v1, x1, rfl, r1, ra1⟩ := ra.c1
  obtain ⟨v2, x2, rfl, r2, ra2⟩ := ra1.c1
  refine ⟨_, pss_cons (ps_expr (pe_callS F1 (hr.mono (by omega)) (by rfl) g1 k1 b1 (fun σ => passAt (takes_of rfl rfl rfl rfl) σ) (pa_cons (pv 0) (pa_cons (pv 1) pa_nil)))) pss_never, ?_⟩
  exact ⟨v1, rfl, v2, rfl, M, X, d, [], i, z, dm, .cons r1 (.cons r2 .nil), rfl, hX, hw, fun H' dd sm h0 h1 => qE H' dd sm h0 h1⟩
theorem ok_d_wish_places {f f1 C : Addr} {fd fd1 : FuncData} (F : Fun K "wish_places" "wish_places" s_wish_places f fd) (F1 : FnOk P w K mg base (L2.CX P w) 5 f1 fd1 ["world", "thing"] (spZ C 2)) (g1 : mg "refuse_no_wish" = some (.ref f1)) (k1 : PySem.W.keepIn K (.ref f1) = true) (b1 : Binds K fd1 ["world", "thing"] []) : FnOk P w K mg base (L2.CX P w) 6 f fd ["world", "wish"] (spZ C 2) := by
  refine F.okX sc_wish_places (fun vs H Q E h => spZ_len h) (fun cdv A outer s H vs Q E hr h => ?_)
  obtain ⟨M, X, d, r, i, z, dm, ra, l, hX, hw, qE⟩ := h
  obtain ⟨v1, x1, rfl, r1, ra1⟩ := ra.c1
  obtain ⟨v2, x2, rfl, r2, ra2⟩ := ra1.c1
  refine ⟨_, pss_cons (ps_expr (pe_callS F1 (hr.mono (by omega)) (by rfl) g1 k1 b1 (fun σ => passAt (takes_of rfl rfl rfl rfl) σ) (pa_cons (pv 0) (pa_cons (pv 1) pa_nil)))) pss_never, ?_⟩
  exact ⟨v1, rfl, v2, rfl, M, X, d, [], i, z, dm, .cons r1 (.cons r2 .nil), rfl, hX, hw, fun H' dd sm h0 h1 => qE H' dd sm h0 h1⟩
theorem ok_d_wish_verdict {f f1 C : Addr} {fd fd1 : FuncData} (F : Fun K "wish_verdict" "wish_verdict" s_wish_verdict f fd) (F1 : FnOk P w K mg base (L2.CX P w) 5 f1 fd1 ["world", "thing"] (spZ C 2)) (g1 : mg "refuse_no_wish" = some (.ref f1)) (k1 : PySem.W.keepIn K (.ref f1) = true) (b1 : Binds K fd1 ["world", "thing"] []) : FnOk P w K mg base (L2.CX P w) 6 f fd ["world", "wish", "moment"] (spZ C 3) := by
  refine F.okX sc_wish_verdict (fun vs H Q E h => spZ_len h) (fun cdv A outer s H vs Q E hr h => ?_)
  obtain ⟨M, X, d, r, i, z, dm, ra, l, hX, hw, qE⟩ := h
  obtain ⟨v1, x1, rfl, r1, ra1⟩ := ra.c1
  obtain ⟨v2, x2, rfl, r2, ra2⟩ := ra1.c1
  refine ⟨_, pss_cons (ps_expr (pe_callS F1 (hr.mono (by omega)) (by rfl) g1 k1 b1 (fun σ => passAt (takes_of rfl rfl rfl rfl) σ) (pa_cons (pv 0) (pa_cons (pv 1) pa_nil)))) pss_never, ?_⟩
  exact ⟨v1, rfl, v2, rfl, M, X, d, [], i, z, dm, .cons r1 (.cons r2 .nil), rfl, hX, hw, fun H' dd sm h0 h1 => qE H' dd sm h0 h1⟩
theorem ok_d_wish_holds {f f1 C : Addr} {fd fd1 : FuncData} (F : Fun K "wish_holds" "wish_holds" s_wish_holds f fd) (F1 : FnOk P w K mg base (L2.CX P w) 5 f1 fd1 ["world", "thing"] (spZ C 2)) (g1 : mg "refuse_no_wish" = some (.ref f1)) (k1 : PySem.W.keepIn K (.ref f1) = true) (b1 : Binds K fd1 ["world", "thing"] []) : FnOk P w K mg base (L2.CX P w) 6 f fd ["world", "wish", "moment", "thing"] (spZ C 4) := by
  refine F.okX sc_wish_holds (fun vs H Q E h => spZ_len h) (fun cdv A outer s H vs Q E hr h => ?_)
  obtain ⟨M, X, d, r, i, z, dm, ra, l, hX, hw, qE⟩ := h
  obtain ⟨v1, x1, rfl, r1, ra1⟩ := ra.c1
  obtain ⟨v2, x2, rfl, r2, ra2⟩ := ra1.c1
  refine ⟨_, pss_cons (ps_expr (pe_callS F1 (hr.mono (by omega)) (by rfl) g1 k1 b1 (fun σ => passAt (takes_of rfl rfl rfl rfl) σ) (pa_cons (pv 0) (pa_cons (pv 1) pa_nil)))) pss_never, ?_⟩
  exact ⟨v1, rfl, v2, rfl, M, X, d, [], i, z, dm, .cons r1 (.cons r2 .nil), rfl, hX, hw, fun H' dd sm h0 h1 => qE H' dd sm h0 h1⟩
end
end Dl
namespace Dl
open PySem PySem.Spec PyProof.Rows L2 Rt Dx
structure ExV (K : PySem.W.Frag) (mg : Str → Option Value) (A C c1 c2 : Addr) : Prop where
  gA : mg "AgeError" = some (.ref A)
  gC : mg "BadWish" = some (.ref C)
  g1 : mg "BadPaper" = some (.ref c1)
  g2 : mg "BadWorld" = some (.ref c2)
  e : PySem.W.exmOne K (.ref C) (.ref C) = some true
  c : ExcC K C
  x : XfC K C
  n1 : PySem.W.findIn K (.ref C) "item" = some none
  n2 : PySem.W.findIn K (.ref C) "word" = some none
  k0 : PySem.W.kitAny K (.ref C) [.ref c1, .ref c2] = some false
  k1 : PySem.W.kitOne K (.ref C) (.ref A) = some true
def SRef : Sem (Int × Wd × D) where
  enc := fun (w, X, d) => [.int w, X.d, d]
  ok := fun (w, X, d) => (0 ≤ w ∧ w ≤ 4) ∧ X.ok ∧ wfO X.ks d ≠ none
  out := fun (_, X, d) => fD9 (wfO X.ks d)
  fn := fun {x y} _ _ e => by
    obtain ⟨w, X, d⟩ := x
    obtain ⟨w', X', d'⟩ := y
    injection e with e0 e
    injection e with e1 e
    injection e with e2 e
    cases Wd.inj e1
    cases e2
    rfl
section
variable {P : Program} {w : World} {K : PySem.W.Frag} {mg : Str → Option Value} {base : Heap}
theorem ok_refused {f f0 f1 f2 f3 f4 A0 C c1 c2 : Addr} {fd fd0 fd1 fd2 fd3 fd4 : FuncData} (F : Fun K "_law_refused" "_law_refused" s_law_refused f fd) (T : ExV K mg A0 C c1 c2) (m_isinstance : mg "isinstance" = none)
    (F0 : FnOk P w K mg base (L2.CX P w) 6 f0 fd0 ["world", "wish", "moment"] (spZ C 3)) (g0 : mg "comes" = some (.ref f0)) (k0 : PySem.W.keepIn K (.ref f0) = true) (b0 : Binds K fd0 ["world", "wish", "moment"] [])
    (F1 : FnOk P w K mg base (L2.CX P w) 6 f1 fd1 ["world", "wish"] (spZ C 2)) (g1 : mg "first_wish" = some (.ref f1)) (k1 : PySem.W.keepIn K (.ref f1) = true) (b1 : Binds K fd1 ["world", "wish"] [])
    (F2 : FnOk P w K mg base (L2.CX P w) 6 f2 fd2 ["world", "wish"] (spZ C 2)) (g2 : mg "wish_places" = some (.ref f2)) (k2 : PySem.W.keepIn K (.ref f2) = true) (b2 : Binds K fd2 ["world", "wish"] [])
    (F3 : FnOk P w K mg base (L2.CX P w) 6 f3 fd3 ["world", "wish", "moment"] (spZ C 3)) (g3 : mg "wish_verdict" = some (.ref f3)) (k3 : PySem.W.keepIn K (.ref f3) = true) (b3 : Binds K fd3 ["world", "wish", "moment"] [])
    (F4 : FnOk P w K mg base (L2.CX P w) 6 f4 fd4 ["world", "wish", "moment", "thing"] (spZ C 4)) (g4 : mg "wish_holds" = some (.ref f4)) (k4 : PySem.W.keepIn K (.ref f4) = true) (b4 : Binds K fd4 ["world", "wish", "moment", "thing"] []) : FnOk P w K mg base CX0 7 f fd ["_law_way_here", "_law_world_here", "_law_wish_here"] (spD 3 SRef.f) := by
  refine F.ok sc_law_refused (fun vs H Q E h => ?_) (fun cdv A outer s H vs Q E hr h => ?_)
  · obtain ⟨M, ds, d, dm, r, l, _⟩ := h
    rw [r.len, l]
    rfl
  obtain ⟨M, ds, d, dm, ra, l, e, q⟩ := h
  refine ⟨_, pss_cons (ps_set (i := 3) sc_law_refused.nd rfl (.inl rfl) (pe_tupF pa_nil)) (pss_cons (ps_try_as (i := 4) rfl rfl sc_law_refused.nd rfl rfl ⟨by rfl, by decide, .inl T.gC⟩ takes0
    (fun W' pn xe tk _ => (pss_one (ps_if (pt_cmpR op_eq (pv 0) pe_int (nomark _)) (pss_one (ps_expr (pe_callS F0 (hr.mono (by omega)) (by rfl) g0 k0 b0 (fun σ => passAt tk σ) (pa_cons (pv 1) (pa_cons (pv 2) (pa_cons pe_int pa_nil))))))
      (pss_one (ps_if (pt_cmpR op_eq (pv 0) pe_int (nomark _)) (pss_one (ps_expr (pe_callS F1 (hr.mono (by omega)) (by rfl) g1 k1 b1 (fun σ => passAt tk σ) (pa_cons (pv 1) (pa_cons (pv 2) pa_nil)))))
      (pss_one (ps_if (pt_cmpR op_eq (pv 0) pe_int (nomark _)) (pss_one (ps_expr (pe_callS F2 (hr.mono (by omega)) (by rfl) g2 k2 b2 (fun σ => passAt tk σ) (pa_cons (pv 1) (pa_cons (pv 2) pa_nil)))))
      (pss_one (ps_if (pt_cmpR op_eq (pv 0) pe_int (nomark _)) (pss_one (ps_expr (pe_callS F3 (hr.mono (by omega)) (by rfl) g3 k3 b3 (fun σ => passAt tk σ) (pa_cons (pv 1) (pa_cons (pv 2) (pa_cons (pe_op op_pow pe_int pe_int) pa_nil))))))
      (pss_one (ps_expr (pe_callS F4 (hr.mono (by omega)) (by rfl) g4 k4 b4 (fun σ => passAt tk σ) (pa_cons (pv 1) (pa_cons (pv 2) (pa_cons pe_int (pa_cons (pe_tupF pa_nil) pa_nil))))))))))))))))
    (fun a oe cls d pn hz hf => pss_if (p := cls = .ref C ∧ ∃ dd, d = some dd) fun hp => by
        have hz' : Zc (.ref C) (some (d.getD 0)) oe := by
          obtain ⟨rfl, dd, rfl⟩ := hp
          exact hz
        have hz2 : Zc (.ref C) d oe := by
          obtain ⟨rfl, _⟩ := hp
          exact hz
        exact pss_cons (ps_set (i := 3) sc_law_refused.nd rfl (.inl rfl) (pe_tupF (pa_cons (pe_xf (cls := .ref C) (d := d) T.x T.n1 hz2 hf (pv 4)) (pa_cons (pe_xf (cls := .ref C) (d := d) T.x T.n2 hz2 hf (pv 4)) pa_nil))))
          (pss_one (ps_if (PW.pt (pw_or (pt_not (pt_val (pe_callB (call_isD (dd := d.getD 0) T.c hz' hf) (by rfl) m_isinstance (by decide +kernel) (pa_cons (pv 4) (pa_cons (pe_glob (v := .ref A0) (by rfl) T.gA rfl) pa_nil))))) (pw_or1 (pt_val (pe_callB (call_isDT (dd := d.getD 0) T.c hz' hf) (by rfl) m_isinstance (by decide +kernel) (pa_cons (pv 4) (pa_cons (pe_tupL (pa_cons (pe_glob (v := .ref c1) (by rfl) T.g1 rfl) (pa_cons (pe_glob (v := .ref c2) (by rfl) T.g2 rfl) pa_nil))) pa_nil)))))))
            (pss_one (ps_set (i := 3) sc_law_refused.nd rfl (.inl rfl) pe_non))
            pss_nil)))) (pss_one (ps_ret (pv 3)))), ?_⟩
  obtain ⟨⟨w0, X, d⟩, ⟨⟨w1, w2⟩, hX, hw⟩, rfl, rfl⟩ := Sem.get e
  obtain ⟨v0, x0, rfl, r0, ra0⟩ := RpAll.c1 (d := .int w0) (ds := [X.d, d]) ra
  obtain ⟨v1, x1, rfl, r1, ra1⟩ := ra0.c1
  obtain ⟨v2, x2, rfl, r2, ra2⟩ := ra1.c1
  cases ra2.c0
  cases r0
  have qq : ∀ v H', Same H H' → Rp M H' v (fD9 (wfO X.ks d)) → Q v H' := q
  obtain ⟨⟨i, z⟩, ew⟩ : ∃ p, wfO X.ks d = some p := by
    cases h : wfO X.ks d with
    | none => exact (hw h).elim
    | some p => exact ⟨p, rfl⟩
  rw [ew] at qq
  obtain ⟨zo, zl⟩ := wfO_z ew
  refine ⟨by show 0 ≤ sizeLine; decide, fun p H1 hp s1 tf => ?_⟩
  have l1 : List.lookup (Str.ofString "item") [(Str.ofString "word", V.str z), (Str.ofString "item", V.int i)] = some (.int i) := by
    rw [lookup_put, if_neg (by decide +kernel), lookup_put, if_pos rfl]
  have l2 : List.lookup (Str.ofString "word") [(Str.ofString "word", V.str z), (Str.ofString "item", V.int i)] = some (.str z) := by
    rw [lookup_put, if_pos rfl]
  rcases (show w0 = 0 ∨ w0 = 1 ∨ w0 = 2 ∨ w0 = 3 ∨ w0 = 4 by omega) with rfl | rfl | rfl | rfl | rfl
  · refine ⟨.int 0, rfl, rfl, _, rfl, iteB (fun _ => ?_) fun h => absurd h (by decide)⟩
    refine ⟨v1, rfl, v2, rfl, M, X, d, [.int 7], i, z, dm.mono s1, .cons (r1.mono (.of s1)) (.cons (r2.mono (.of s1)) (.cons (.int _) .nil)), rfl, hX, ew, fun H1' dd sm h0 hd => ?_⟩
    have smH : Same H H1' := s1.trans sm
    refine ⟨true, T.e, fun _ a ha => ⟨⟨rfl, dd, rfl⟩, ?_⟩, fun z => nomatch z⟩
    refine ⟨.ref a, rfl, rfl, rfl, dd, _, .int i, rfl, hd, l1, .ref a, rfl, rfl, rfl, dd, _, .str z, rfl, hd, l2, (by show 2 ≤ sizeLine; decide), fun p2 H2 hp2 s2 tf2 => ?_⟩
    have hd2 : H2 dd = some (.xd [(Str.ofString "word", V.str z), (Str.ofString "item", V.int i)]) := s2 _ _ hd
    refine ⟨.ref a, rfl, .ref A0, .ref A0, true, _, rfl, hd2, fun u r => r, T.k1, true, rfl, iteB (fun h => nomatch h) fun _ => ?_⟩
    refine ⟨.ref a, rfl, (by show 2 ≤ sizeLine; decide), fun t H3 ht eH => ?_⟩
    have hd3 : H3 dd = some (.xd [(Str.ofString "word", V.str z), (Str.ofString "item", V.int i)]) := by
      rw [eH, upd_ne (ne_of_none hd2 ht)]
      exact hd2
    have s3 : Same H2 H3 := by
      rw [eH]
      exact smN ht
    refine ⟨t, [.ref c1, .ref c2], [.ref c1, .ref c2], false, _, rfl, hd3, SqT.of (by rw [eH]; exact upd_same), fun us r => ?_, T.k0, false, rfl, iteB (fun h => nomatch h) fun _ => ?_⟩
    · match us, r with
      | [_, _], .cons r1 (.cons r2 .nil) =>
        cases r1
        cases r2
        rfl
    refine ⟨.ref p2, rfl, qq _ _ ((smH.trans s2).trans s3) ?_⟩
    have rr : Rp M H2 (.ref p2) (.tuple [.int i, .str z]) := .tup tf2 (fun m => (dm.mono smH) p2 m hp2) (by show 2 ≤ sizeLine; decide) (.cons (.int _) (.cons (.str _ zl) .nil))
    exact rr.mono (.of s3)
  · refine ⟨.int 1, rfl, rfl, _, rfl, iteB (fun h => absurd h (by decide)) fun _ => ?_⟩
    refine ⟨.int 1, rfl, rfl, _, rfl, iteB (fun _ => ?_) fun h => absurd h (by decide)⟩
    refine ⟨v1, rfl, v2, rfl, M, X, d, [], i, z, dm.mono s1, .cons (r1.mono (.of s1)) (.cons (r2.mono (.of s1)) .nil), rfl, hX, ew, fun H1' dd sm h0 hd => ?_⟩
    have smH : Same H H1' := s1.trans sm
    refine ⟨true, T.e, fun _ a ha => ⟨⟨rfl, dd, rfl⟩, ?_⟩, fun z => nomatch z⟩
    refine ⟨.ref a, rfl, rfl, rfl, dd, _, .int i, rfl, hd, l1, .ref a, rfl, rfl, rfl, dd, _, .str z, rfl, hd, l2, (by show 2 ≤ sizeLine; decide), fun p2 H2 hp2 s2 tf2 => ?_⟩
    have hd2 : H2 dd = some (.xd [(Str.ofString "word", V.str z), (Str.ofString "item", V.int i)]) := s2 _ _ hd
    refine ⟨.ref a, rfl, .ref A0, .ref A0, true, _, rfl, hd2, fun u r => r, T.k1, true, rfl, iteB (fun h => nomatch h) fun _ => ?_⟩
    refine ⟨.ref a, rfl, (by show 2 ≤ sizeLine; decide), fun t H3 ht eH => ?_⟩
    have hd3 : H3 dd = some (.xd [(Str.ofString "word", V.str z), (Str.ofString "item", V.int i)]) := by
      rw [eH, upd_ne (ne_of_none hd2 ht)]
      exact hd2
    have s3 : Same H2 H3 := by
      rw [eH]
      exact smN ht
    refine ⟨t, [.ref c1, .ref c2], [.ref c1, .ref c2], false, _, rfl, hd3, SqT.of (by rw [eH]; exact upd_same), fun us r => ?_, T.k0, false, rfl, iteB (fun h => nomatch h) fun _ => ?_⟩
    · match us, r with
      | [_, _], .cons r1 (.cons r2 .nil) =>
        cases r1
        cases r2
        rfl
    refine ⟨.ref p2, rfl, qq _ _ ((smH.trans s2).trans s3) ?_⟩
    have rr : Rp M H2 (.ref p2) (.tuple [.int i, .str z]) := .tup tf2 (fun m => (dm.mono smH) p2 m hp2) (by show 2 ≤ sizeLine; decide) (.cons (.int _) (.cons (.str _ zl) .nil))
    exact rr.mono (.of s3)
  · refine ⟨.int 2, rfl, rfl, _, rfl, iteB (fun h => absurd h (by decide)) fun _ => ?_⟩
    refine ⟨.int 2, rfl, rfl, _, rfl, iteB (fun h => absurd h (by decide)) fun _ => ?_⟩
    refine ⟨.int 2, rfl, rfl, _, rfl, iteB (fun _ => ?_) fun h => absurd h (by decide)⟩
    refine ⟨v1, rfl, v2, rfl, M, X, d, [], i, z, dm.mono s1, .cons (r1.mono (.of s1)) (.cons (r2.mono (.of s1)) .nil), rfl, hX, ew, fun H1' dd sm h0 hd => ?_⟩
    have smH : Same H H1' := s1.trans sm
    refine ⟨true, T.e, fun _ a ha => ⟨⟨rfl, dd, rfl⟩, ?_⟩, fun z => nomatch z⟩
    refine ⟨.ref a, rfl, rfl, rfl, dd, _, .int i, rfl, hd, l1, .ref a, rfl, rfl, rfl, dd, _, .str z, rfl, hd, l2, (by show 2 ≤ sizeLine; decide), fun p2 H2 hp2 s2 tf2 => ?_⟩
    have hd2 : H2 dd = some (.xd [(Str.ofString "word", V.str z), (Str.ofString "item", V.int i)]) := s2 _ _ hd
    refine ⟨.ref a, rfl, .ref A0, .ref A0, true, _, rfl, hd2, fun u r => r, T.k1, true, rfl, iteB (fun h => nomatch h) fun _ => ?_⟩
    refine ⟨.ref a, rfl, (by show 2 ≤ sizeLine; decide), fun t H3 ht eH => ?_⟩
    have hd3 : H3 dd = some (.xd [(Str.ofString "word", V.str z), (Str.ofString "item", V.int i)]) := by
      rw [eH, upd_ne (ne_of_none hd2 ht)]
      exact hd2
    have s3 : Same H2 H3 := by
      rw [eH]
      exact smN ht
    refine ⟨t, [.ref c1, .ref c2], [.ref c1, .ref c2], false, _, rfl, hd3, SqT.of (by rw [eH]; exact upd_same), fun us r => ?_, T.k0, false, rfl, iteB (fun h => nomatch h) fun _ => ?_⟩
    · match us, r with
      | [_, _], .cons r1 (.cons r2 .nil) =>
        cases r1
        cases r2
        rfl
    refine ⟨.ref p2, rfl, qq _ _ ((smH.trans s2).trans s3) ?_⟩
    have rr : Rp M H2 (.ref p2) (.tuple [.int i, .str z]) := .tup tf2 (fun m => (dm.mono smH) p2 m hp2) (by show 2 ≤ sizeLine; decide) (.cons (.int _) (.cons (.str _ zl) .nil))
    exact rr.mono (.of s3)
  · refine ⟨.int 3, rfl, rfl, _, rfl, iteB (fun h => absurd h (by decide)) fun _ => ?_⟩
    refine ⟨.int 3, rfl, rfl, _, rfl, iteB (fun h => absurd h (by decide)) fun _ => ?_⟩
    refine ⟨.int 3, rfl, rfl, _, rfl, iteB (fun h => absurd h (by decide)) fun _ => ?_⟩
    refine ⟨.int 3, rfl, rfl, _, rfl, iteB (fun _ => ?_) fun h => absurd h (by decide)⟩
    refine ⟨v1, rfl, v2, rfl, 10, 15, rfl, rfl, ⟨by decide, by decide, by decide⟩, M, X, d, [.int _], i, z, dm.mono s1, .cons (r1.mono (.of s1)) (.cons (r2.mono (.of s1)) (.cons (.int _) .nil)), rfl, hX, ew, fun H1' dd sm h0 hd => ?_⟩
    have smH : Same H H1' := s1.trans sm
    refine ⟨true, T.e, fun _ a ha => ⟨⟨rfl, dd, rfl⟩, ?_⟩, fun z => nomatch z⟩
    refine ⟨.ref a, rfl, rfl, rfl, dd, _, .int i, rfl, hd, l1, .ref a, rfl, rfl, rfl, dd, _, .str z, rfl, hd, l2, (by show 2 ≤ sizeLine; decide), fun p2 H2 hp2 s2 tf2 => ?_⟩
    have hd2 : H2 dd = some (.xd [(Str.ofString "word", V.str z), (Str.ofString "item", V.int i)]) := s2 _ _ hd
    refine ⟨.ref a, rfl, .ref A0, .ref A0, true, _, rfl, hd2, fun u r => r, T.k1, true, rfl, iteB (fun h => nomatch h) fun _ => ?_⟩
    refine ⟨.ref a, rfl, (by show 2 ≤ sizeLine; decide), fun t H3 ht eH => ?_⟩
    have hd3 : H3 dd = some (.xd [(Str.ofString "word", V.str z), (Str.ofString "item", V.int i)]) := by
      rw [eH, upd_ne (ne_of_none hd2 ht)]
      exact hd2
    have s3 : Same H2 H3 := by
      rw [eH]
      exact smN ht
    refine ⟨t, [.ref c1, .ref c2], [.ref c1, .ref c2], false, _, rfl, hd3, SqT.of (by rw [eH]; exact upd_same), fun us r => ?_, T.k0, false, rfl, iteB (fun h => nomatch h) fun _ => ?_⟩
    · match us, r with
      | [_, _], .cons r1 (.cons r2 .nil) =>
        cases r1
        cases r2
        rfl
    refine ⟨.ref p2, rfl, qq _ _ ((smH.trans s2).trans s3) ?_⟩
    have rr : Rp M H2 (.ref p2) (.tuple [.int i, .str z]) := .tup tf2 (fun m => (dm.mono smH) p2 m hp2) (by show 2 ≤ sizeLine; decide) (.cons (.int _) (.cons (.str _ zl) .nil))
    exact rr.mono (.of s3)
  · refine ⟨.int 4, rfl, rfl, _, rfl, iteB (fun h => absurd h (by decide)) fun _ => ?_⟩
    refine ⟨.int 4, rfl, rfl, _, rfl, iteB (fun h => absurd h (by decide)) fun _ => ?_⟩
    refine ⟨.int 4, rfl, rfl, _, rfl, iteB (fun h => absurd h (by decide)) fun _ => ?_⟩
    refine ⟨.int 4, rfl, rfl, _, rfl, iteB (fun h => absurd h (by decide)) fun _ => ?_⟩
    refine ⟨v1, rfl, v2, rfl, by show 0 ≤ sizeLine; decide, fun p4 H4 hp4 s4 tf4 => ?_⟩
    have hs1 := s1
    have s1 : Same H H4 := s1.trans s4
    refine ⟨M, X, d, [.int 0, .tuple []], i, z, dm.mono s1, .cons (r1.mono (.of s1)) (.cons (r2.mono (.of s1)) (.cons (.int _) (.cons (.tup tf4 (fun m => (dm.mono (hs1)) p4 m hp4) (by show 0 ≤ sizeLine; decide) .nil) .nil))), rfl, hX, ew, fun H1' dd sm h0 hd => ?_⟩
    have smH : Same H H1' := s1.trans sm
    refine ⟨true, T.e, fun _ a ha => ⟨⟨rfl, dd, rfl⟩, ?_⟩, fun z => nomatch z⟩
    refine ⟨.ref a, rfl, rfl, rfl, dd, _, .int i, rfl, hd, l1, .ref a, rfl, rfl, rfl, dd, _, .str z, rfl, hd, l2, (by show 2 ≤ sizeLine; decide), fun p2 H2 hp2 s2 tf2 => ?_⟩
    have hd2 : H2 dd = some (.xd [(Str.ofString "word", V.str z), (Str.ofString "item", V.int i)]) := s2 _ _ hd
    refine ⟨.ref a, rfl, .ref A0, .ref A0, true, _, rfl, hd2, fun u r => r, T.k1, true, rfl, iteB (fun h => nomatch h) fun _ => ?_⟩
    refine ⟨.ref a, rfl, (by show 2 ≤ sizeLine; decide), fun t H3 ht eH => ?_⟩
    have hd3 : H3 dd = some (.xd [(Str.ofString "word", V.str z), (Str.ofString "item", V.int i)]) := by
      rw [eH, upd_ne (ne_of_none hd2 ht)]
      exact hd2
    have s3 : Same H2 H3 := by
      rw [eH]
      exact smN ht
    refine ⟨t, [.ref c1, .ref c2], [.ref c1, .ref c2], false, _, rfl, hd3, SqT.of (by rw [eH]; exact upd_same), fun us r => ?_, T.k0, false, rfl, iteB (fun h => nomatch h) fun _ => ?_⟩
    · match us, r with
      | [_, _], .cons r1 (.cons r2 .nil) =>
        cases r1
        cases r2
        rfl
    refine ⟨.ref p2, rfl, qq _ _ ((smH.trans s2).trans s3) ?_⟩
    have rr : Rp M H2 (.ref p2) (.tuple [.int i, .str z]) := .tup tf2 (fun m => (dm.mono smH) p2 m hp2) (by show 2 ≤ sizeLine; decide) (.cons (.int _) (.cons (.str _ zl) .nil))
    exact rr.mono (.of s3)
end
end Dl
namespace Dl
open PySem PySem.Spec PyProof.Rows L2 Rt Dx
def lawR (a b c d e f g h : Option LV) : Rho := [none, some .pool, a, b, c, d, e, f, g, h]
theorem ev_itS9 {f : EF} {ρ : Rho} {d : D} {items : List D} (h : f ρ = some d) (hs : seqD d = some items) : itSeq f ρ = some items := by
  unfold itSeq
  rw [h]
  exact hs
def one9 (ds : List D) : D := .tuple [.tuple ds]
theorem el9_none : El .none := ⟨trivial, by decide⟩
theorem el9_nil : El (.tuple []) := ⟨⟨by decide, fun d h => nomatch h⟩, by decide⟩
theorem l9_three {a b c : D} (ha : Lf9 a) (hb : Lf9 b) (hc : Lf9 c) : El (one9 [a, b, c]) := el_one (by show 3 ≤ 5; decide) fun d hd => by
  simp only [List.mem_cons, List.not_mem_nil, or_false] at hd
  rcases hd with rfl | rfl | rfl <;> assumption
theorem l9_two {a b : D} (ha : Lf9 a) (hb : Lf9 b) : El (one9 [a, b]) := el_one (by show 2 ≤ 5; decide) fun d hd => by
  simp only [List.mem_cons, List.not_mem_nil, or_false] at hd
  rcases hd with rfl | rfl <;> assumption
theorem el9_rep {d : D} {n : Nat} (hn : n ≤ 5) (h : Bw 0 2 d ∧ d.weight ≤ 303) : El (.tuple (List.replicate n d)) := by
  obtain ⟨a, b⟩ := rows_b (ds := List.replicate n d) (by rw [List.length_replicate]; exact hn) fun x hx => by rw [(List.mem_replicate.mp hx).2]; exact h
  exact El.of (m := 0) (k := 3) (by decide) (by decide) a (by omega)
theorem el9_ws {X : Wd} {ps : List Pt} (h : WsOk X ps) : El (wsD ps) := by
  obtain ⟨a, b⟩ := ws_b h
  exact El.of (m := 0) (k := 3) (by decide) (by decide) a (by omega)
theorem el9_wl {X : Wd} {ps : List Pt} (h : WsOk X ps) : El (.list [wsD ps]) := by
  obtain ⟨a, b⟩ := ws_b h
  refine El.of (m := 0) (k := 4) (by decide) (by decide) ⟨by show 1 ≤ 70 + 0; decide, fun d hd => by rw [List.mem_singleton.mp hd]; exact a⟩ ?_
  show (wsD ps).weight + 1 + 0 ≤ 7000
  omega
theorem wIfNo9 {c : Rho → Option Bool} {f : WP Out} {ρ : Rho} {b : Nat} {Q : Out → Nat → Prop} (hc : c (shutR true ρ) = some false) (h : Q (.nx ρ) b) : (swIf (wP c) f swNil).w ρ b Q := ⟨false, hc, iteB (fun h => nomatch h) fun _ => h⟩
section
variable {P : Program} {w : World} {K : PySem.W.Frag} {mg : Str → Option Value} {base : Heap}
theorem ok_law {f : Addr} {fd : FuncData} {t1 t2 : Tok} (F : Fun K "law" "law" s_law f fd) (hB : ∃ o, base.get? sysModules = some o) (m_repr : mg "repr" = none) (m_range : mg "range" = none) (g_ITEMS : mg "ITEMS" = some (.int 4 t1)) (g_LATE : mg "LATE" = some (.int 60 t2))
    (C__law_draws : Cl P w K mg base 1 "_law_draws" ["_law_script", "_law_may"] (spDraws K)) (C__law_next : Cl P w K mg base 1 "_law_next" ["_law_drawn", "_law_many"] (spN 1 gNext)) (C__law_world : Cl P w K mg base 4 "_law_world" ["_law_drawn", "_law_late"] (spN 1 gWorld)) (C__law_wish : Cl P w K mg base 3 "_law_wish" ["_law_drawn", "_law_world_here"] (spN 1 gWish)) (C__law_spoilt : Cl P w K mg base 13 "_law_spoilt" ["_law_drawn", "_law_thing"] (spN 1 (gSpW 12))) (C__law_look : Cl P w K mg base 3 "_law_look" ["_law_kinds", "_law_thing"] (spD 2 SLok.f)) (C_wishfault : Cl P w K mg base 4 "wishfault" ["world", "thing"] (spD 2 SWfA.f)) (C__law_alike : Cl P w K mg base 6 "_law_alike" ["_law_one", "_law_other"] (spD 2 (sAl (dpB 6)))) (C__law_refused : Cl P w K mg base 7 "_law_refused" ["_law_way_here", "_law_world_here", "_law_wish_here"] (spD 3 SRef.f)) : FnG P w K mg base 14 f fd ["_law_script"] (spLaw K) := by
  refine okG F sc_law (fun vs H Q E h => ?_) (fun cdv A outer s H vs Q E hr free h => ?_)
  · obtain ⟨a, ns, rfl, _⟩ := h
    rfl
  · obtain ⟨a, ns, rfl, hS, hn, q⟩ := h
    refine ⟨_, pss_cons (ps_set (i := 1) sc_law.nd rfl (.inl rfl) (pe_cl C__law_draws (hr.mono (by omega)) (by rfl) (pa_cons (pv 0) (pa_cons pe_int pa_nil))))
      (nSs_cons (nS_asg (K := K) (p := .nm 2) (ps_set (i := 2) sc_law.nd rfl (.inl rfl) (nE_draw C__law_world (hr.mono (by omega)) (by rfl) (pv 1) (nA_cons (nE_pure (dE_c (μ := true) pe_int)) nA_nil))))
  (nSs_cons (nS_asg (K := K) (p := .nm 3) (ps_set (i := 3) sc_law.nd rfl (.inl rfl) (nE_draw C__law_wish (hr.mono (by omega)) (by rfl) (pv 1) (nA_cons (nE_pure (dE_var (μ := true) (pv 2))) nA_nil))))
  (nSs_cons (nS_asg (K := K) (p := .nm 4) (ps_set (i := 4) sc_law.nd rfl (.inl rfl) (nE_pure (dE_ix (dE_ix (dE_var (μ := true) (pv 2)) (dE_c (μ := true) pe_int)) (dE_c (μ := true) pe_int)))))
  (nSs_cons (nS_own (ps_set (i := 5) sc_law.nd rfl (.inl rfl) (nN_lst (nA_cons (nE_pure (dE_var (μ := true) (pv 3))) (nA_cons (nE_pure (dE_tup (dA_nil (μ := true)))) (nA_cons (nE_pure (dE_c (μ := true) pe_non)) (nA_cons (nE_pure (dE_op o_mulX (dE_sl (dE_var (μ := true) (pv 3)) dO_none (dO_some (dE_c (μ := true) pe_int))) (dE_c (μ := true) pe_int))) (nA_cons (nE_pure (dE_op o_mulX (dE_sl (dE_var (μ := true) (pv 3)) dO_none (dO_some (dE_c (μ := true) pe_int))) (dE_c (μ := true) pe_int))) (nA_cons (nE_pure (dE_tup (dA_cons (dE_tup (dA_cons (dE_var (μ := true) (pv 4)) (dA_cons (dE_c (μ := true) pe_int) (dA_cons (dE_c (μ := true) pe_int) (dA_nil (μ := true)))))) (dA_nil (μ := true))))) (nA_cons (nE_pure (dE_tup (dA_cons (dE_tup (dA_cons (dE_var (μ := true) (pv 4)) (dA_cons (dE_c (μ := true) pe_int) (dA_cons (dE_c (μ := true) pe_int) (dA_nil (μ := true)))))) (dA_nil (μ := true))))) nA_nil))))))))))
  (nSs_cons (nS_own (ps_set (i := 5) sc_law.nd rfl (.inl rfl) (nO_cat (pv 5) (nE_pure (dE_lst (dA_cons (dE_tup (dA_cons (dE_tup (dA_cons (dE_var (μ := true) (pv 4)) (dA_cons (dE_c (μ := true) pe_int) (dA_cons (dE_c (μ := true) pe_int) (dA_nil (μ := true)))))) (dA_nil (μ := true)))) (dA_cons (dE_tup (dA_cons (dE_tup (dA_cons (dE_var (μ := true) (pv 4)) (dA_cons (dE_c (μ := true) pe_int) (dA_nil (μ := true))))) (dA_nil (μ := true)))) (dA_cons (dE_tup (dA_cons (dE_tup (dA_cons (dE_var (μ := true) (pv 4)) (dA_cons (dE_c (μ := true) pe_bl) (dA_cons (dE_c (μ := true) pe_int) (dA_nil (μ := true)))))) (dA_nil (μ := true)))) (dA_cons (dE_tup (dA_cons (dE_tup (dA_cons (dE_var (μ := true) (pv 4)) (dA_cons (dE_c (μ := true) pe_int) (dA_cons (dE_c (μ := true) pe_bl) (dA_nil (μ := true)))))) (dA_nil (μ := true)))) (dA_cons (dE_tup (dA_cons (dE_tup (dA_cons (dE_op o_add (dE_var (μ := true) (pv 4)) (dE_c (μ := true) pe_str)) (dA_cons (dE_c (μ := true) pe_int) (dA_cons (dE_c (μ := true) pe_int) (dA_nil (μ := true)))))) (dA_nil (μ := true)))) (dA_nil (μ := true))))))))))))
  (nSs_cons (nS_own (ps_set (i := 5) sc_law.nd rfl (.inl rfl) (nO_cat (pv 5) (nE_pure (dE_lst (dA_cons (dE_tup (dA_cons (dE_tup (dA_cons (dE_var (μ := true) (pv 4)) (dA_cons (dE_c (μ := true) pe_int) (dA_cons (dE_c (μ := true) pe_int) (dA_nil (μ := true)))))) (dA_nil (μ := true)))) (dA_cons (dE_lst (dA_cons (dE_var (μ := true) (pv 3)) (dA_nil (μ := true)))) (dA_nil (μ := true)))))))))
  (nSs_cons (nS_for (K := K) (p := (.nm 6)) (ps_for PassesOwn.never rfl (nI_pure (dI_ran1 (by rfl) m_range (dA_cons (dE_c (μ := true) pe_int) (dA_nil (μ := true))))) (pg_name (i := 6) sc_law.nd rfl (.inl rfl))
    (nSs_cons (nS_asg (K := K) (p := .nm 7) (ps_set (i := 7) sc_law.nd rfl (.inl rfl) (nE_draw C__law_spoilt (hr.mono (by omega)) (by rfl) (pv 1) (nA_cons (nE_pure (dE_var (μ := true) (pv 3))) nA_nil))))
  (nSs_cons (nS_if (nT_cmp (o_eq hr.units) (nE_draw C__law_next (hr.mono (by omega)) (by rfl) (pv 1) (nA_cons (nE_pure (dE_c (μ := true) pe_int)) nA_nil)) (nE_pure (dE_c (μ := true) pe_int)) (nomark _))
    (nSs_one (nS_asg (K := K) (p := .nm 7) (ps_set (i := 7) sc_law.nd rfl (.inl rfl) (nE_draw C__law_spoilt (hr.mono (by omega)) (by rfl) (pv 1) (nA_cons (nE_pure (dE_var (μ := true) (pv 7))) nA_nil)))))
    nSs_nil)
  (nSs_one (nS_app (K := K) (ps_expr (pe_bm PySem.F.plainAttrs_list PySem.F.slot_list_append PySem.F.type_list_append mt_append (pv 5) (nA_cons (nE_pure (dE_var (μ := true) (pv 7))) nA_nil)))))))))
  (nSs_cons (nS_frz (i := 5) (nS_for (K := K) (p := (.nm 7)) (ps_for PassesOwn.never rfl (nI_pure (dI_seq (dE_op o_add (dE_var (μ := true) (pv 5)) (dE_lst (dA_cons (dE_var (μ := true) (pv 3)) (dA_nil (μ := true))))))) (pg_name (i := 7) sc_law.nd rfl (.inl rfl))
    (nSs_cons (nS_asg (K := K) (p := .nm 8) (ps_set (i := 8) sc_law.nd rfl (.inl rfl) (nE_pure (dE_callB (c_repr free hB hr.units) (by rfl) m_repr (by decide +kernel) (dA_cons (dE_var (μ := true) (pv 7)) (dA_nil (μ := true)))))))
  (nSs_cons (nS_asg (K := K) (p := .nm 9) (ps_set (i := 9) sc_law.nd rfl (.inl rfl) (nE_pure (dE_cl C__law_look (hr.mono (by omega)) (by rfl) (dA_cons (dE_ix (dE_var (μ := true) (pv 2)) (dE_c (μ := true) pe_int)) (dA_cons (dE_var (μ := true) (pv 7)) (dA_nil (μ := true))))))))
  (nSs_cons (nS_if (nT_pure (dT_not (dT_val (dE_cl C__law_alike (hr.mono (by omega)) (by rfl) (dA_cons (dE_cl C_wishfault (hr.mono (by omega)) (by rfl) (dA_cons (dE_var (μ := true) (pv 2)) (dA_cons (dE_var (μ := true) (pv 7)) (dA_nil (μ := true))))) (dA_cons (dE_var (μ := true) (pv 9)) (dA_nil (μ := true))))))))
    (nSs_one (nS_retL (ps_ret (dE_c (μ := true) pe_bl))))
    nSs_nil)
  (nSs_cons (nS_if (PW.pt (nW_and (nT_pure (dT_cmp o_isnot (dE_var (μ := true) (pv 9)) (dE_c (μ := true) pe_non) (nomark _))) (nW_and1 (nT_not (nT_val (nE_cl C__law_alike (hr.mono (by omega)) (by rfl) (nA_cons (nE_cl C__law_refused (hr.mono (by omega)) (by rfl) (nA_cons (nE_draw C__law_next (hr.mono (by omega)) (by rfl) (pv 1) (nA_cons (nE_pure (dE_c (μ := true) pe_int)) nA_nil)) (nA_cons (nE_pure (dE_var (μ := true) (pv 2))) (nA_cons (nE_pure (dE_var (μ := true) (pv 7))) nA_nil)))) (nA_cons (nE_pure (dE_var (μ := true) (pv 9))) nA_nil))))))))
    (nSs_one (nS_retL (ps_ret (dE_c (μ := true) pe_bl))))
    nSs_nil)
  (nSs_one (nS_if (nT_pure (dT_cmp (o_neS hr.units) (dE_callB (c_repr free hB hr.units) (by rfl) m_repr (by decide +kernel) (dA_cons (dE_var (μ := true) (pv 7)) (dA_nil (μ := true)))) (dE_var (μ := true) (pv 8)) (nomark _)))
    (nSs_one (nS_retL (ps_ret (dE_c (μ := true) pe_bl))))
    nSs_nil)))))))))
  (nSs_one (nS_retL (ps_ret (dE_and (dE_cmp (o_eq hr.units) (dE_tup (dA_cons (dE_c (μ := true) (pe_glob (v := .int 4) (by rfl) g_ITEMS ⟨_, rfl⟩)) (dA_cons (dE_c (μ := true) (pe_glob (v := .int 60) (by rfl) g_LATE ⟨_, rfl⟩)) (dA_nil (μ := true))))) (dE_tup (dA_cons (dE_c (μ := true) pe_int) (dA_cons (dE_c (μ := true) pe_int) (dA_nil (μ := true))))) (nomark _)) (dE_one (dE_cmp o_is (dE_cl C_wishfault (hr.mono (by omega)) (by rfl) (dA_cons (dE_var (μ := true) (pv 2)) (dA_cons (dE_var (μ := true) (pv 3)) (dA_nil (μ := true))))) (dE_c (μ := true) pe_non) (nomark _))))))))))))))), ?_⟩
    refine ⟨.ref a, rfl, a, ns, 0, rfl, hS, hn, fun g H1 _ F1 => ?_⟩
    refine ⟨g, g.own, H1, lawR none none none none none none none none, 1000000, ⟨.refl, fun p o => g.alive F1 o, fun p o => g.alive F1 o, fun p o => o, F1, rfl, fun i d e => ?_, fun i d e => ?_, fun i d e => ?_, fun i e => ?_, fun i j a b p e => ?_⟩, ?_⟩
    · match i, e with
      | 0, e | 1, e | 2, e | 3, e | 4, e | 5, e | 6, e | 7, e | 8, e | 9, e => cases e
      | i + 10, e => cases e
    · match i, e with
      | 0, e | 1, e | 2, e | 3, e | 4, e | 5, e | 6, e | 7, e | 8, e | 9, e => cases e
      | i + 10, e => cases e
    · match i, e with
      | 0, e | 1, e | 2, e | 3, e | 4, e | 5, e | 6, e | 7, e | 8, e | 9, e => cases e
      | i + 10, e => cases e
    · match i, e with
      | 1, e => rfl
      | 0, e | 2, e | 3, e | 4, e | 5, e | 6, e | 7, e | 8, e | 9, e => cases e
      | i + 10, e => cases e
    · match i, e with
      | 0, e | 1, e | 2, e | 3, e | 4, e | 5, e | 6, e | 7, e | 8, e | 9, e => cases e
      | i + 10, e => cases e
    refine WP.m _ (P := fun o b => o = .rt (.bool true)) (fun o b' e => ?_) ?_
    · subst e
      intro v H' _ _ r
      cases r
      exact q H'
    refine ⟨rfl, .int 40, rfl, _, rfl, rfl, ⟨40, rfl, by decide, by decide⟩, by omega, fun W b1 ⟨X, eW, hX⟩ h1 => ?_⟩
    subst eW
    refine ⟨lawR (some (.dat X.d)) none none none none none none none, rfl, ?_⟩
    refine ⟨rfl, X.d, rfl, _, rfl, rfl, ⟨X, rfl, hX⟩, by omega, fun W b2 ⟨X', ps, eX, eW, hW⟩ h2 => ?_⟩
    injection eX with eX _
    cases Wd.inj eX
    subst eW
    obtain ⟨z0, hz0, ez0⟩ : ∃ z0, z0 ∈ X.ks ∧ L2.atI (X.ks.map PyData.str) 0 = some (.str z0) := by
      have k1 := hX.k1
      cases e : X.ks with
      | nil => rw [e] at k1; exact absurd k1 (by decide)
      | cons z zs =>
        have := atI_nat (xs := (z :: zs).map PyData.str) (j := 0) (v := .str z) rfl
        exact ⟨z, List.mem_cons_self, this⟩
    obtain ⟨q0, ps', rfl⟩ : ∃ q0 ps', ps = q0 :: ps' := by
      have n1 := hW.n1
      cases ps with
      | nil => exact absurd n1 (by decide)
      | cons q0 ps' => exact ⟨q0, ps', rfl⟩
    let WD : D := wsD (q0 :: ps')
    let R : Option LV → Option LV → Option LV → Option LV → Option LV → Rho := fun d e f g h => lawR (some (.dat X.d)) (some (.dat WD)) (some (.dat (.str z0))) d e f g h
    refine ⟨lawR (some (.dat X.d)) (some (.dat WD)) none none none none none none, rfl, ?_⟩
    refine ⟨.str z0, ev_e2 (a := .tuple (X.ks.map .str)) (b := .int 0) rfl rfl ez0, R none none none none none, rfl, ?_⟩
    have zk := hX.ks z0 hz0
    have zg := (hX.kg z0 hz0).2.1
    let ZQ : Str := z0 ++ Str.ofString "q"
    have zq1 : ZQ.length ≤ 20 := by
      show (z0 ++ Str.ofString "q").length ≤ 20
      rw [s_len, s_app, List.length_append, ← s_len, ← s_len]
      have : (Str.ofString "q").length = 1 := rfl
      omega
    have zq2 : PyData.strOk ZQ = true := strOk_iff.mpr fun c hc => by
      rw [show ZQ.cps.toList = (z0 ++ Str.ofString "q").cps.toList from rfl, s_app] at hc
      rcases List.mem_append.mp hc with h | h
      · exact strOk_iff.mp zk.1 c h
      · exact (show ∀ c ∈ (Str.ofString "q").cps.toList, c < 1114112 by decide +kernel) c h
    let L0 : List D := [WD, .tuple [], .none, .tuple (List.replicate 4 q0.d), .tuple (List.replicate 5 q0.d), one9 [.str z0, .int 0, .int 60], one9 [.str z0, .int 60, .int 60]]
    let L1 : List D := [one9 [.str z0, .int 60, .int 61], one9 [.str z0, .int 0], one9 [.str z0, .bool true, .int 5], one9 [.str z0, .int 0, .bool false], one9 [.str ZQ, .int 0, .int 0]]
    let L2 : List D := [one9 [.str z0, .int 3, .int 2], .list [WD]]
    have nI : ∀ i : Int, i.natAbs < 1000 → Lf9 (.int i) := fun i h => lf9_int h
    have zI : Lf9 (.str z0) := lf9_str zk.1 zk.2
    have hq0 := pt_b hX (hW.i q0 List.mem_cons_self)
    have hL : ∀ d ∈ (L0 ++ L1) ++ L2, El d := by
      intro d hd
      simp only [L0, L1, L2, List.mem_append, List.mem_cons, List.not_mem_nil, or_false] at hd
      rcases hd with ((rfl | rfl | rfl | rfl | rfl | rfl | rfl) | (rfl | rfl | rfl | rfl | rfl)) | (rfl | rfl)
      · exact el9_ws hW
      · exact el9_nil
      · exact el9_none
      · exact el9_rep (by decide) hq0
      · exact el9_rep (by decide) hq0
      · exact l9_three zI (nI _ (by decide)) (nI _ (by decide))
      · exact l9_three zI (nI _ (by decide)) (nI _ (by decide))
      · exact l9_three zI (nI _ (by decide)) (nI _ (by decide))
      · exact l9_two zI (nI _ (by decide))
      · exact l9_three zI lf9_bool (nI _ (by decide))
      · exact l9_three zI (nI _ (by decide)) lf9_bool
      · exact l9_three (lf9_str zq2 zq1) (nI _ (by decide)) (nI _ (by decide))
      · exact l9_three zI (nI _ (by decide)) (nI _ (by decide))
      · exact el9_wl hW
    have sl1 : ∀ ρ : Rho, eVar 3 ρ = some WD → eSl (eVar 3) pNone (pSome (eC (.int 1))) ρ = some (.tuple [q0.d]) := fun ρ h => by
      refine ev_sl (d := WD) (l := none) (h := some ((1 : Nat) : Int)) h rfl rfl ?_
      show some (PyData.tuple (cutD (q0.d :: ps'.map Pt.d) none (some ((1 : Nat) : Int)))) = _
      rw [cut_take9]
      rfl
    refine ⟨WD, rfl, .tuple [], rfl, .none, rfl, .tuple (List.replicate 4 q0.d), ev_e2 (a := .tuple [q0.d]) (b := .int 4) (sl1 _ rfl) rfl rfl, .tuple (List.replicate 5 q0.d), ev_e2 (a := .tuple [q0.d]) (b := .int 5) (sl1 _ rfl) rfl rfl, one9 [.str z0, .int 0, .int 60], rfl, one9 [.str z0, .int 60, .int 60], rfl, _, rfl, _, rfl, _, rfl, _, rfl, _, rfl, _, rfl, _, rfl, .list L0, rfl, L0, rfl, by show 5 < 10; decide, ?_⟩
    have e1 : ∀ ρ : Rho, eVar 4 ρ = some (.str z0) → e2 addD (eVar 4) (eC (PyData.str (Str.ofString "q"))) ρ = some (.str ZQ) := fun ρ h => ev_e2 (a := .str z0) (b := .str (Str.ofString "q")) h rfl (addX_s9 (by have : (Str.ofString "q").length = 1 := rfl; omega))
    refine ⟨L0, rfl, .list L1, ?_, L1, rfl, by show 7 + 5 ≤ sizeLine; decide, _, rfl, by show 5 < 10; decide, ?_⟩
    · exact ev_lstX (ev_cons rfl (ev_cons rfl (ev_cons rfl (ev_cons rfl (ev_cons (ev_tupX (ev_cons (ev_tupX (ev_cons (e1 _ rfl) (ev_cons rfl (ev_cons rfl rfl))) (by show 3 ≤ 1000; decide)) rfl) (by show 1 ≤ 1000; decide)) rfl))))) (by show 5 ≤ 1000; decide)
    refine ⟨L0 ++ L1, rfl, .list L2, rfl, L2, rfl, by show 12 + 2 ≤ sizeLine; decide, _, rfl, by show 5 < 10; decide, ?_⟩
    refine ⟨rgD 0 10, ev_itG (ds := [.int 10]) rfl (ran1_ok (j := 10) (by decide) (by decide)), forN_cost 10 60 (fun k ρ => ∃ L a b, ρ = R (some (.own L)) a b none none ∧ (∀ d ∈ L, El d) ∧ L.length = 14 + k) (rgD 0 10) 0 _ b2 (by rw [rgD_len]; decide) ⟨_, _, _, rfl, hL, rfl⟩ (by rw [rgD_len]; omega) (fun x hx k ρ b hk i hb => ?_) (fun ρ b4 i h4 => ?_)⟩
    · obtain ⟨L, a5, b5, rfl, hE, hl⟩ := i
      obtain ⟨tn, _, rfl⟩ := List.mem_map.mp hx
      let TN : Option LV := some (.dat (.int (0 + (tn : Nat))))
      refine ⟨R (some (.own L)) TN b5 none none, rfl, fun Q' q' => ?_⟩
      have wb : Bw 0 3 WD := (ws_b hW).1
      have ww : WD.weight ≤ 1520 := (ws_b hW).2
      refine ⟨rfl, WD, rfl, _, rfl, rfl, ⟨WD, 0, rfl, by decide, wb.up (Nat.le_refl _) (by decide)⟩, by show 28 ≤ b; omega, fun d1 b6 ⟨x1, ex, sp1⟩ h6 => ?_⟩
      injection ex with ex _
      subst ex
      have d1b : Bw 1 5 d1 := sp1.1 0 3 (by decide) wb
      have d1w := sp1.2
      refine ⟨R (some (.own L)) TN (some (.dat d1)) none none, rfl, ?_⟩
      have e1 : El d1 := El.of (by decide) (by decide) d1b (by omega)
      refine wNext (m := 2) rfl rfl (by decide) (by decide) (by omega) fun v b7 v0 v1 h7 => ⟨.int 0, rfl, _, rfl, _, rfl, ?_⟩
      have app : ∀ (d : D) (b' : Nat), El d → b ≤ b' + 60 → (swApp 5 (wCons (wP (eVar 7)) wNil)).w (R (some (.own L)) TN (some (.dat d)) none none) b' Q' := fun d b' hd hb' => by
        refine ⟨L, rfl, d, rfl, [d], rfl, d, rfl, sz (by omega), q' _ _ ⟨L ++ [d], _, _, rfl, fun d' hd' => ?_, ?_⟩ hb'⟩
        · rcases List.mem_append.mp hd' with h | h
          · exact hE d' h
          · rw [List.mem_singleton.mp h]
            exact hd
        · rw [List.length_append, hl]
          rfl
      refine iteB (fun hv => ?_) (fun hv => ?_)
      · refine ⟨rfl, d1, rfl, _, rfl, rfl, ⟨d1, 1, rfl, by decide, d1b.up (Nat.le_refl _) (by decide)⟩, by show 28 ≤ b7; omega, fun d2 b8 ⟨x2, ex2, sp2⟩ h8 => ?_⟩
        injection ex2 with ex2 _
        subst ex2
        have d2b : Bw 2 7 d2 := sp2.1 1 5 (by decide) d1b
        have d2w := sp2.2
        have h8 : b7 ≤ b8 + 28 := h8
        have h6 : b ≤ b6 + 28 := h6
        exact ⟨R (some (.own L)) TN (some (.dat d2)) none none, rfl, app d2 b8 ⟨d2b, by omega⟩ (by omega)⟩
      · have h6 : b ≤ b6 + 28 := h6
        exact app d1 b7 e1 (by omega)
    · obtain ⟨L, a5, b5, rfl, hE, hl⟩ := i
      have ll : L.length = 24 := hl
      have hE2 : ∀ d ∈ L ++ [WD], El d := fun d hd => by
        rcases List.mem_append.mp hd with h | h
        · exact hE d h
        · rw [List.mem_singleton.mp h]
          exact el9_ws hW
      have ei : itSeq (e2 addD (eVar 5) (eLst (aCons (eVar 3) aNil))) (shutR true (R (some (.dat (.list L))) a5 b5 none none)) = some (L ++ [WD]) := by
        refine ev_itS9 (d := .list (L ++ [WD])) (ev_e2 (a := .list L) (b := .list [WD]) rfl rfl ?_) rfl
        exact addX_l9 (by show L.length + 1 ≤ 1000; omega)
      rw [rgD_len] at h4
      refine ⟨L, rfl, L ++ [WD], ei, forN_cost 25 1 (fun k ρ => ∃ b c d, ρ = R (some (.dat (.list L))) a5 b c d) (L ++ [WD]) 0 _ b4 (by rw [List.length_append, ll]; show 0 + (24 + 1) ≤ 25; decide) ⟨_, _, _, rfl⟩ (by rw [List.length_append, ll]; show (24 + 1) * 1 ≤ b4; omega) (fun x hx k ρ b hk i hb => ?_) (fun ρ b6 i h6 => ?_)⟩
      · obtain ⟨y1, y2, y3, rfl⟩ := i
        have hx := hE2 x hx
        let R2 : Option LV → Option LV → Rho := fun a b => R (some (.dat (.list L))) a5 (some (.dat x)) a b
        refine ⟨R2 y2 y3, rfl, fun Q' q' => ?_⟩
        have rp := hx.repr
        refine ⟨.str x.shown, wv_call1 (ds := [x]) rfl rp, R2 (some (.dat (.str x.shown))) y3, rfl, ?_⟩
        have lk : SLok.f [.tuple (X.ks.map .str), x] = some (fD9 (wfO X.ks x)) := Sem.of (S := SLok) (x := (X.ks, x)) trivial
        have wf : SWfA.f [X.d, x] = some (fD9 (wfO X.ks x)) := Sem.of (S := SWfA) (x := (X, x)) hX
        let V : D := fD9 (wfO X.ks x)
        let R3 : Rho := R2 (some (.dat (.str x.shown))) (some (.dat V))
        refine ⟨V, ev_call (ds := [.tuple (X.ks.map .str), x]) rfl rfl lk, R3, rfl, ?_⟩
        refine wIfNo9 (ev_not (b := true) (ev_oB (ev_call (ds := [V, V]) (ev_cons (ev_call (ds := [X.d, x]) rfl rfl wf) (ev_cons rfl rfl)) rfl (sAl_ok dp_f9)))) ?_
        have last : ∀ b', b ≤ b' + 1 → (swIf (wP (oB (e2 neS (eCall reprD (aCons (eVar 7) aNil)) (eVar 8)))) (swRetL (eC (.bool false))) swNil).w R3 b' Q' := fun b' hb' => by
          refine wIfNo9 (ev_oB (ev_e2 (a := .str x.shown) (b := .str x.shown) (wv_call1 (ds := [x]) rfl rp) rfl ?_)) (q' _ _ ⟨_, _, _, rfl⟩ hb')
          show some (PyData.bool (!(x.shown == x.shown))) = _
          rw [beq_self_eq_true]
          rfl
        cases hw : wfO X.ks x with
        | none =>
          have eV : V = .none := by show fD9 (wfO X.ks x) = _; rw [hw]; rfl
          refine ⟨false, ev_oB (ev_e2 (a := V) (b := .none) rfl rfl (by rw [eV]; rfl)), iteB (fun h => nomatch h) fun _ => ?_⟩
          exact iteB (fun h => nomatch h) fun _ => last b (by omega)
        | some p =>
          obtain ⟨i, z⟩ := p
          have eV : V = .tuple [.int i, .str z] := by show fD9 (wfO X.ks x) = _; rw [hw]; rfl
          refine ⟨true, ev_oB (ev_e2 (a := V) (b := .none) rfl rfl (by rw [eV]; rfl)), iteB (fun _ => ?_) fun h => nomatch h⟩
          refine wNext (m := 5) rfl rfl (by decide) (by decide) (by omega) fun v b7 v0 v1 h7 => ?_
          have rf : SRef.f [.int v, X.d, x] = some V := Sem.of (S := SRef) (x := (v, X, x)) ⟨⟨v0, by omega⟩, hX, by rw [hw]; exact fun h => nomatch h⟩
          exact ⟨X.d, rfl, x, rfl, [x], rfl, [X.d, x], rfl, [.int v, X.d, x], rfl, V, (if_pos rfl).trans rf, V, rfl, [V], rfl, [V, V], rfl, .bool true, (if_pos rfl).trans (sAl_ok dp_f9), true, rfl, false, rfl, iteB (fun h => nomatch h) fun _ => last b7 (by omega)⟩
      · obtain ⟨y1, y2, y3, rfl⟩ := i
        have wf : SWfA.f [X.d, WD] = some .none := (Sem.of (S := SWfA) (x := (X, WD)) hX).trans (congrArg some (by show fD9 (wfO X.ks (wsD (q0 :: ps'))) = _; rw [ws_none hW]; rfl))
        exact ⟨.bool true, ev_and (b := true) rfl (fun _ => ev_e2 (a := .none) (b := .none) (ev_call (ds := [X.d, WD]) rfl rfl wf) rfl rfl) (fun h => by cases h), rfl⟩
end
end Dl
namespace Dl
open PySem PySem.Spec PyProof.Rows L2 Rt
theorem kit_no {K : PySem.W.Frag} {C Y : Addr} (h1 : PySem.W.hasDictIn K Y = true) (h2 : PySem.W.typeIn K (.ref Y) = some (.type "type")) (h3 : PySem.W.subIn K (.ref C) (.ref Y) = some false) (h4 : PySem.W.subIn K (.ref C) (.ref C) = some true) : PySem.W.kitOne K (.ref C) (.ref Y) = some false := by
  have hne : ((Value.ref C : Value) == .ref Y) = false := by
    refine Bool.eq_false_iff.mpr fun z => ?_
    have e : (Value.ref C : Value) = .ref Y := beq_iff_eq.mp z
    rw [← e, h4] at h3
    cases h3
  obtain ⟨cd, hc, _⟩ := PySem.W.any_some h1
  unfold PySem.W.kitOne
  rw [hne, if_neg Bool.false_ne_true]
  have e2 : ((PySem.W.clsIn K Y).isSome && PySem.W.typeIn K (.ref Y) == some (.type "type")) = true := by rw [hc, h2] <;> rfl
  show (if ((PySem.W.clsIn K Y).isSome && PySem.W.typeIn K (.ref Y) == some (.type "type")) = true then PySem.W.subIn K (.ref C) (.ref Y) else none) = _
  rw [if_pos e2]
  exact h3
theorem kit_yes {K : PySem.W.Frag} {C Y : Addr} (h1 : PySem.W.hasDictIn K Y = true) (h2 : PySem.W.typeIn K (.ref Y) = some (.type "type")) (h3 : PySem.W.subIn K (.ref C) (.ref Y) = some true) : PySem.W.kitOne K (.ref C) (.ref Y) = some true := by
  unfold PySem.W.kitOne
  by_cases hne : ((Value.ref C : Value) == .ref Y) = true
  · rw [if_pos hne]
  · rw [if_neg hne]
    obtain ⟨cd, hc, _⟩ := PySem.W.any_some h1
    have e2 : ((PySem.W.clsIn K Y).isSome && PySem.W.typeIn K (.ref Y) == some (.type "type")) = true := by rw [hc, h2] <;> rfl
    show (if ((PySem.W.clsIn K Y).isSome && PySem.W.typeIn K (.ref Y) == some (.type "type")) = true then PySem.W.subIn K (.ref C) (.ref Y) else none) = _
    rw [if_pos e2]
    exact h3
theorem kit_self {K : PySem.W.Frag} {C : Addr} : PySem.W.kitOne K (.ref C) (.ref C) = some true := if_pos (beq_self_eq_true _)
theorem kit_ve {K : PySem.W.Frag} {C : Addr} (h : PySem.W.subIn K (.ref C) (.type "ValueError") = some true) : PySem.W.kitOne K (.ref C) (.type "ValueError") = some true := by
  unfold PySem.W.kitOne
  rw [if_neg (by simp)]
  show (if PySem.W.kitMeta "ValueError" = true then PySem.W.subIn K (.ref C) (.type "ValueError") else none) = _
  rw [if_pos (by decide +kernel)]
  exact h
theorem kit_any0 {K : PySem.W.Frag} {t : Value} : ∀ {cs : List Value}, (∀ c ∈ cs, PySem.W.kitOne K t c = some false) → PySem.W.kitAny K t cs = some false
  | [], _ => rfl
  | c :: cs, h => by
    unfold PySem.W.kitAny
    rw [h c (by simp)]
    exact kit_any0 fun x hx => h x (by simp [hx])
end Dl
namespace Dl
open PySem PySem.Spec PyProof.Rows L2 Rt
open Dx
theorem all_mk {l : PySem.W.OpenLaw} {w : World} {K : PySem.W.Frag} {h : Heap} {mg : Str → Option Value} {fa f0 f1 f2 f3 f4 f5 f6 f7 f8 f9 f10 f11 f12 f13 f14 f15 f16 f17 f18 f19 f20 f21 f22 f23 f24 f25 f26 : Addr} (X : K.In h) (G : h.Ns mainGlobals mg) (hfa : mg "law" = some (.ref fa))
    {od0 an0 od1 an1 od2 an2 od3 an3 od4 an4 od5 an5 od6 an6 od7 an7 od8 an8 od9 an9 od10 an10 od11 an11 od12 an12 od13 an13 od14 an14 od15 an15 od16 an16 od17 an17 od18 an18 od19 an19 od20 an20 od21 an21 od22 an22 od23 an23 od24 an24 od25 an25 od26 an26 : Option Addr} {sl0 sl1 sl2 sl3 sl4 sl5 sl6 sl7 sl8 sl9 sl10 sl11 sl12 sl13 sl14 sl15 sl16 sl17 sl18 sl19 sl20 sl21 sl22 sl23 sl24 sl25 sl26 : Array (Option Value)} {oc0 kV0 dc0 pm0 cd0 ct0 oc1 kV1 dc1 pm1 cd1 ct1 oc2 kV2 dc2 pm2 cd2 ct2 oc3 kV3 dc3 pm3 cd3 ct3 oc4 kV4 dc4 pm4 cd4 ct4 oc5 kV5 dc5 pm5 cd5 ct5 oc6 kV6 dc6 pm6 cd6 ct6 oc7 kV7 dc7 pm7 cd7 ct7 oc8 kV8 dc8 pm8 cd8 ct8 oc9 kV9 dc9 pm9 cd9 ct9 oc10 kV10 dc10 pm10 cd10 ct10 oc11 kV11 dc11 pm11 cd11 ct11 oc12 kV12 dc12 pm12 cd12 ct12 oc13 kV13 dc13 pm13 cd13 ct13 oc14 kV14 dc14 pm14 cd14 ct14 oc15 kV15 dc15 pm15 cd15 ct15 oc16 kV16 dc16 pm16 cd16 ct16 oc17 kV17 dc17 pm17 cd17 ct17 oc18 kV18 dc18 pm18 cd18 ct18 oc19 kV19 dc19 pm19 cd19 ct19 oc20 kV20 dc20 pm20 cd20 ct20 oc21 kV21 dc21 pm21 cd21 ct21 oc22 kV22 dc22 pm22 cd22 ct22 oc23 kV23 dc23 pm23 cd23 ct23 oc24 kV24 dc24 pm24 cd24 ct24 oc25 kV25 dc25 pm25 cd25 ct25 oc26 kV26 dc26 pm26 cd26 ct26 : Value}
    (a0 : PySem.W.nsIn K mainGlobals "is_number" = some (some (.ref f0))) (l0 : K.lookup f0 = some ⟨oc0, od0, .func (PySem.W.fnOf "is_number" "is_number" (defArgs s_is_number) (defBody s_is_number) (defScope s_is_number) .none kV0 dc0 pm0 an0 cd0 ct0), sl0⟩) (c0 : PySem.W.codeIn K cd0 "is_number" = true) (k0 : PySem.W.keepIn K (.ref f0) = true)
    (a1 : PySem.W.nsIn K mainGlobals "is_number_from" = some (some (.ref f1))) (l1 : K.lookup f1 = some ⟨oc1, od1, .func (PySem.W.fnOf "is_number_from" "is_number_from" (defArgs s_is_number_from) (defBody s_is_number_from) (defScope s_is_number_from) .none kV1 dc1 pm1 an1 cd1 ct1), sl1⟩) (c1 : PySem.W.codeIn K cd1 "is_number_from" = true) (k1 : PySem.W.keepIn K (.ref f1) = true)
    (a2 : PySem.W.nsIn K mainGlobals "is_row" = some (some (.ref f2))) (l2 : K.lookup f2 = some ⟨oc2, od2, .func (PySem.W.fnOf "is_row" "is_row" (defArgs s_is_row) (defBody s_is_row) (defScope s_is_row) .none kV2 dc2 pm2 an2 cd2 ct2), sl2⟩) (c2 : PySem.W.codeIn K cd2 "is_row" = true) (k2 : PySem.W.keepIn K (.ref f2) = true)
    (a3 : PySem.W.nsIn K mainGlobals "item_word" = some (some (.ref f3))) (l3 : K.lookup f3 = some ⟨oc3, od3, .func (PySem.W.fnOf "item_word" "item_word" (defArgs s_item_word) (defBody s_item_word) (defScope s_item_word) .none kV3 dc3 pm3 an3 cd3 ct3), sl3⟩) (c3 : PySem.W.codeIn K cd3 "item_word" = true) (k3 : PySem.W.keepIn K (.ref f3) = true)
    (a4 : PySem.W.nsIn K mainGlobals "wishfault" = some (some (.ref f4))) (l4 : K.lookup f4 = some ⟨oc4, od4, .func (PySem.W.fnOf "wishfault" "wishfault" (defArgs s_wishfault) (defBody s_wishfault) (defScope s_wishfault) .none kV4 dc4 pm4 an4 cd4 ct4), sl4⟩) (c4 : PySem.W.codeIn K cd4 "wishfault" = true) (k4 : PySem.W.keepIn K (.ref f4) = true)
    (a5 : PySem.W.nsIn K mainGlobals "refuse_no_wish" = some (some (.ref f5))) (l5 : K.lookup f5 = some ⟨oc5, od5, .func (PySem.W.fnOf "refuse_no_wish" "refuse_no_wish" (defArgs s_refuse_no_wish) (defBody s_refuse_no_wish) (defScope s_refuse_no_wish) .none kV5 dc5 pm5 an5 cd5 ct5), sl5⟩) (c5 : PySem.W.codeIn K cd5 "refuse_no_wish" = true) (k5 : PySem.W.keepIn K (.ref f5) = true)
    (a6 : PySem.W.nsIn K mainGlobals "comes" = some (some (.ref f6))) (l6 : K.lookup f6 = some ⟨oc6, od6, .func (PySem.W.fnOf "comes" "comes" (defArgs s_comes) (defBody s_comes) (defScope s_comes) .none kV6 dc6 pm6 an6 cd6 ct6), sl6⟩) (c6 : PySem.W.codeIn K cd6 "comes" = true) (k6 : PySem.W.keepIn K (.ref f6) = true)
    (a7 : PySem.W.nsIn K mainGlobals "first_wish" = some (some (.ref f7))) (l7 : K.lookup f7 = some ⟨oc7, od7, .func (PySem.W.fnOf "first_wish" "first_wish" (defArgs s_first_wish) (defBody s_first_wish) (defScope s_first_wish) .none kV7 dc7 pm7 an7 cd7 ct7), sl7⟩) (c7 : PySem.W.codeIn K cd7 "first_wish" = true) (k7 : PySem.W.keepIn K (.ref f7) = true)
    (a8 : PySem.W.nsIn K mainGlobals "wish_places" = some (some (.ref f8))) (l8 : K.lookup f8 = some ⟨oc8, od8, .func (PySem.W.fnOf "wish_places" "wish_places" (defArgs s_wish_places) (defBody s_wish_places) (defScope s_wish_places) .none kV8 dc8 pm8 an8 cd8 ct8), sl8⟩) (c8 : PySem.W.codeIn K cd8 "wish_places" = true) (k8 : PySem.W.keepIn K (.ref f8) = true)
    (a9 : PySem.W.nsIn K mainGlobals "wish_verdict" = some (some (.ref f9))) (l9 : K.lookup f9 = some ⟨oc9, od9, .func (PySem.W.fnOf "wish_verdict" "wish_verdict" (defArgs s_wish_verdict) (defBody s_wish_verdict) (defScope s_wish_verdict) .none kV9 dc9 pm9 an9 cd9 ct9), sl9⟩) (c9 : PySem.W.codeIn K cd9 "wish_verdict" = true) (k9 : PySem.W.keepIn K (.ref f9) = true)
    (a10 : PySem.W.nsIn K mainGlobals "wish_holds" = some (some (.ref f10))) (l10 : K.lookup f10 = some ⟨oc10, od10, .func (PySem.W.fnOf "wish_holds" "wish_holds" (defArgs s_wish_holds) (defBody s_wish_holds) (defScope s_wish_holds) .none kV10 dc10 pm10 an10 cd10 ct10), sl10⟩) (c10 : PySem.W.codeIn K cd10 "wish_holds" = true) (k10 : PySem.W.keepIn K (.ref f10) = true)
    (a11 : PySem.W.nsIn K mainGlobals "_law_draws" = some (some (.ref f11))) (l11 : K.lookup f11 = some ⟨oc11, od11, .func (PySem.W.fnOf "_law_draws" "_law_draws" (defArgs s_law_draws) (defBody s_law_draws) (defScope s_law_draws) .none kV11 dc11 pm11 an11 cd11 ct11), sl11⟩) (c11 : PySem.W.codeIn K cd11 "_law_draws" = true) (k11 : PySem.W.keepIn K (.ref f11) = true)
    (a12 : PySem.W.nsIn K mainGlobals "_law_next" = some (some (.ref f12))) (l12 : K.lookup f12 = some ⟨oc12, od12, .func (PySem.W.fnOf "_law_next" "_law_next" (defArgs s_law_next) (defBody s_law_next) (defScope s_law_next) .none kV12 dc12 pm12 an12 cd12 ct12), sl12⟩) (c12 : PySem.W.codeIn K cd12 "_law_next" = true) (k12 : PySem.W.keepIn K (.ref f12) = true)
    (a13 : PySem.W.nsIn K mainGlobals "_law_alike" = some (some (.ref f13))) (l13 : K.lookup f13 = some ⟨oc13, od13, .func (PySem.W.fnOf "_law_alike" "_law_alike" (defArgs s_law_alike) (defBody s_law_alike) (defScope s_law_alike) .none kV13 dc13 pm13 an13 cd13 ct13), sl13⟩) (c13 : PySem.W.codeIn K cd13 "_law_alike" = true) (k13 : PySem.W.keepIn K (.ref f13) = true)
    (a14 : PySem.W.nsIn K mainGlobals "_law_whole" = some (some (.ref f14))) (l14 : K.lookup f14 = some ⟨oc14, od14, .func (PySem.W.fnOf "_law_whole" "_law_whole" (defArgs s_law_whole) (defBody s_law_whole) (defScope s_law_whole) .none kV14 dc14 pm14 an14 cd14 ct14), sl14⟩) (c14 : PySem.W.codeIn K cd14 "_law_whole" = true) (k14 : PySem.W.keepIn K (.ref f14) = true)
    (a15 : PySem.W.nsIn K mainGlobals "_law_spoilt" = some (some (.ref f15))) (l15 : K.lookup f15 = some ⟨oc15, od15, .func (PySem.W.fnOf "_law_spoilt" "_law_spoilt" (defArgs s_law_spoilt) (defBody s_law_spoilt) (defScope s_law_spoilt) .none kV15 dc15 pm15 an15 cd15 ct15), sl15⟩) (c15 : PySem.W.codeIn K cd15 "_law_spoilt" = true) (k15 : PySem.W.keepIn K (.ref f15) = true)
    (a16 : PySem.W.nsIn K mainGlobals "_law_names" = some (some (.ref f16))) (l16 : K.lookup f16 = some ⟨oc16, od16, .func (PySem.W.fnOf "_law_names" "_law_names" (defArgs s_law_names) (defBody s_law_names) (defScope s_law_names) .none kV16 dc16 pm16 an16 cd16 ct16), sl16⟩) (c16 : PySem.W.codeIn K cd16 "_law_names" = true) (k16 : PySem.W.keepIn K (.ref f16) = true)
    (a17 : PySem.W.nsIn K mainGlobals "_law_part" = some (some (.ref f17))) (l17 : K.lookup f17 = some ⟨oc17, od17, .func (PySem.W.fnOf "_law_part" "_law_part" (defArgs s_law_part) (defBody s_law_part) (defScope s_law_part) .none kV17 dc17 pm17 an17 cd17 ct17), sl17⟩) (c17 : PySem.W.codeIn K cd17 "_law_part" = true) (k17 : PySem.W.keepIn K (.ref f17) = true)
    (a18 : PySem.W.nsIn K mainGlobals "_law_way" = some (some (.ref f18))) (l18 : K.lookup f18 = some ⟨oc18, od18, .func (PySem.W.fnOf "_law_way" "_law_way" (defArgs s_law_way) (defBody s_law_way) (defScope s_law_way) .none kV18 dc18 pm18 an18 cd18 ct18), sl18⟩) (c18 : PySem.W.codeIn K cd18 "_law_way" = true) (k18 : PySem.W.keepIn K (.ref f18) = true)
    (a19 : PySem.W.nsIn K mainGlobals "_law_source" = some (some (.ref f19))) (l19 : K.lookup f19 = some ⟨oc19, od19, .func (PySem.W.fnOf "_law_source" "_law_source" (defArgs s_law_source) (defBody s_law_source) (defScope s_law_source) .none kV19 dc19 pm19 an19 cd19 ct19), sl19⟩) (c19 : PySem.W.codeIn K cd19 "_law_source" = true) (k19 : PySem.W.keepIn K (.ref f19) = true)
    (a20 : PySem.W.nsIn K mainGlobals "_law_world" = some (some (.ref f20))) (l20 : K.lookup f20 = some ⟨oc20, od20, .func (PySem.W.fnOf "_law_world" "_law_world" (defArgs s_law_world) (defBody s_law_world) (defScope s_law_world) .none kV20 dc20 pm20 an20 cd20 ct20), sl20⟩) (c20 : PySem.W.codeIn K cd20 "_law_world" = true) (k20 : PySem.W.keepIn K (.ref f20) = true)
    (a21 : PySem.W.nsIn K mainGlobals "_law_item" = some (some (.ref f21))) (l21 : K.lookup f21 = some ⟨oc21, od21, .func (PySem.W.fnOf "_law_item" "_law_item" (defArgs s_law_item) (defBody s_law_item) (defScope s_law_item) .none kV21 dc21 pm21 an21 cd21 ct21), sl21⟩) (c21 : PySem.W.codeIn K cd21 "_law_item" = true) (k21 : PySem.W.keepIn K (.ref f21) = true)
    (a22 : PySem.W.nsIn K mainGlobals "_law_wish" = some (some (.ref f22))) (l22 : K.lookup f22 = some ⟨oc22, od22, .func (PySem.W.fnOf "_law_wish" "_law_wish" (defArgs s_law_wish) (defBody s_law_wish) (defScope s_law_wish) .none kV22 dc22 pm22 an22 cd22 ct22), sl22⟩) (c22 : PySem.W.codeIn K cd22 "_law_wish" = true) (k22 : PySem.W.keepIn K (.ref f22) = true)
    (a23 : PySem.W.nsIn K mainGlobals "_law_from" = some (some (.ref f23))) (l23 : K.lookup f23 = some ⟨oc23, od23, .func (PySem.W.fnOf "_law_from" "_law_from" (defArgs s_law_from) (defBody s_law_from) (defScope s_law_from) .none kV23 dc23 pm23 an23 cd23 ct23), sl23⟩) (c23 : PySem.W.codeIn K cd23 "_law_from" = true) (k23 : PySem.W.keepIn K (.ref f23) = true)
    (a24 : PySem.W.nsIn K mainGlobals "_law_look" = some (some (.ref f24))) (l24 : K.lookup f24 = some ⟨oc24, od24, .func (PySem.W.fnOf "_law_look" "_law_look" (defArgs s_law_look) (defBody s_law_look) (defScope s_law_look) .none kV24 dc24 pm24 an24 cd24 ct24), sl24⟩) (c24 : PySem.W.codeIn K cd24 "_law_look" = true) (k24 : PySem.W.keepIn K (.ref f24) = true)
    (a25 : PySem.W.nsIn K mainGlobals "_law_refused" = some (some (.ref f25))) (l25 : K.lookup f25 = some ⟨oc25, od25, .func (PySem.W.fnOf "_law_refused" "_law_refused" (defArgs s_law_refused) (defBody s_law_refused) (defScope s_law_refused) .none kV25 dc25 pm25 an25 cd25 ct25), sl25⟩) (c25 : PySem.W.codeIn K cd25 "_law_refused" = true) (k25 : PySem.W.keepIn K (.ref f25) = true)
    (a26 : PySem.W.nsIn K mainGlobals "law" = some (some (.ref f26))) (l26 : K.lookup f26 = some ⟨oc26, od26, .func (PySem.W.fnOf "law" "law" (defArgs s_law) (defBody s_law) (defScope s_law) .none kV26 dc26 pm26 an26 cd26 ct26), sl26⟩) (c26 : PySem.W.codeIn K cd26 "law" = true) (k26 : PySem.W.keepIn K (.ref f26) = true)
    (z_isinstance : PySem.W.nsIn K mainGlobals "isinstance" = some none)
    (z_int : PySem.W.nsIn K mainGlobals "int" = some none)
    (z_bool : PySem.W.nsIn K mainGlobals "bool" = some none)
    (z_tuple : PySem.W.nsIn K mainGlobals "tuple" = some none)
    (z_len : PySem.W.nsIn K mainGlobals "len" = some none)
    (z_enumerate : PySem.W.nsIn K mainGlobals "enumerate" = some none)
    (z_list : PySem.W.nsIn K mainGlobals "list" = some none)
    (z_range : PySem.W.nsIn K mainGlobals "range" = some none)
    (z_str : PySem.W.nsIn K mainGlobals "str" = some none)
    (z_sorted : PySem.W.nsIn K mainGlobals "sorted" = some none)
    (z_min : PySem.W.nsIn K mainGlobals "min" = some none)
    (z_repr : PySem.W.nsIn K mainGlobals "repr" = some none)
    {t_ITEMS : Tok} (y_ITEMS : PySem.W.nsIn K mainGlobals "ITEMS" = some (some (.int 4 t_ITEMS)))
    {t_LATE : Tok} (y_LATE : PySem.W.nsIn K mainGlobals "LATE" = some (some (.int 60 t_LATE)))
    {nmX qX : Str} {NX : Addr} {bsX bmX : List Value} {snX : List Str} {subX : List Value} {abX : Bool} {colX : Option Bool} {ddX : Option Addr} {k0X k1X k2X k3X k5X : Option Value} {ocI kVI dcI pmI cdI ctI : Value} {odI anI : Option Addr} {slI : Array (Option Value)}
    {cA cC w1 w2 cI : Addr}
    (x_AgeError : PySem.W.nsIn K mainGlobals "AgeError" = some (some (.ref cA)))
    (x_BadWish : PySem.W.nsIn K mainGlobals "BadWish" = some (some (.ref cC)))
    (x_BadPaper : PySem.W.nsIn K mainGlobals "BadPaper" = some (some (.ref w1)))
    (x_BadWorld : PySem.W.nsIn K mainGlobals "BadWorld" = some (some (.ref w2)))
    (x_l : K.lookup cC = some (excClassObj nmX qX cC NX bsX bmX true snX subX abX colX ddX k0X k1X k2X k3X k5X "ValueError.__new__"))
    (x_r : PySem.HandSPX.refsVE bmX = true)
    (x_sa : PySem.W.findIn K (.ref cC) "__setattr__" = some (some (.builtin "object.__setattr__")))
    (x_k : PySem.W.keepIn K (.ref cC) = true)
    (x_b : PySem.W.subIn K (.ref cC) (.type "BaseException") = some true)
    (x_t : PySem.W.typeIn K (.ref cC) = some (.type "type"))
    (x_i : PySem.W.findIn K (.ref cC) "__init__" = some (some (.ref cI)))
    (x_ti : PySem.W.typeIn K (.ref cI) = some (.type "function"))
    (x_li : K.lookup cI = some ⟨ocI, odI, .func (PySem.W.fnOf "__init__" "BadWish.__init__" (defArgs s_bw_init) (defBody s_bw_init) (defScope s_bw_init) .none kVI dcI pmI anI cdI ctI), slI⟩)
    (x_ci : PySem.W.codeIn K cdI "BadWish.__init__" = true)
    (x_ki : PySem.W.keepIn K (.ref cI) = true)
    (x_n1 : PySem.W.findIn K (.ref cC) "item" = some none)
    (x_n2 : PySem.W.findIn K (.ref cC) "word" = some none)
    (x_da : PySem.W.hasDictIn K cA = true)
    (x_ta : PySem.W.typeIn K (.ref cA) = some (.type "type"))
    (x_ca : PySem.W.subIn K (.ref cC) (.ref cA) = some true)
    (x_cc : PySem.W.subIn K (.ref cC) (.ref cC) = some true)
    (x_hg : PySem.W.findIn K (.ref cC) "__getattribute__" = some (some (.builtin "BaseException.__getattribute__")))
    (x_hk : PySem.W.findIn K (.ref cC) "__getattr__" = some none)
    (x_hd : PySem.W.hasDictIn K cC = true)
    (x_ha : PySem.W.findIn K (.ref cC) "__class__" = some (some (.builtin "object.__class__")))
    (x_hn : PySem.W.specialIn K (.builtin "object.__class__") "__get__" = some (some (.builtin "getset_descriptor.__get__")))
    (x_ht : PySem.W.takesIn K (.builtin "object.__class__") = some true)
    (x_hm : PySem.W.mroIn K cC (.type "object") = some true)
    (d_w1 : PySem.W.hasDictIn K w1 = true)
    (t_w1 : PySem.W.typeIn K (.ref w1) = some (.type "type"))
    (s_w1 : PySem.W.subIn K (.ref cC) (.ref w1) = some false)
    (d_w2 : PySem.W.hasDictIn K w2 = true)
    (t_w2 : PySem.W.typeIn K (.ref w2) = some (.type "type"))
    (s_w2 : PySem.W.subIn K (.ref cC) (.ref w2) = some false)
    : ∃ fd : FuncData, (∀ (s : Shared) (v : Value), BindsTo s fd ⟨[v], []⟩ [("_law_script", v)]) ∧ ∀ base : Heap, K.In base → base.Ns mainGlobals mg → (∃ o, base.get? sysModules = some o) → FnG l.prog w K mg base 14 fa fd ["_law_script"] (spLaw K) := by
  have e := hfa.symm.trans (PySem.W.mg_of X G a26)
  cases e
  have F0 := fun_mk (st := s_is_number) l0 c0 k0
  have b0 := F0.binds (ps := ["thing"]) fun _ _ _ _ _ _ us hl => match us, hl with | [_], _ => rfl
  have g0 := PySem.W.mg_of X G a0
  have F1 := fun_mk (st := s_is_number_from) l1 c1 k1
  have b1 := F1.binds (ps := ["thing", "low", "high"]) fun _ _ _ _ _ _ us hl => match us, hl with | [_, _, _], _ => rfl
  have g1 := PySem.W.mg_of X G a1
  have F2 := fun_mk (st := s_is_row) l2 c2 k2
  have b2 := F2.binds (ps := ["thing", "fewest", "most"]) fun _ _ _ _ _ _ us hl => match us, hl with | [_, _, _], _ => rfl
  have g2 := PySem.W.mg_of X G a2
  have F3 := fun_mk (st := s_item_word) l3 c3 k3
  have b3 := F3.binds (ps := ["world", "item", "latest"]) fun _ _ _ _ _ _ us hl => match us, hl with | [_, _, _], _ => rfl
  have g3 := PySem.W.mg_of X G a3
  have F4 := fun_mk (st := s_wishfault) l4 c4 k4
  have b4 := F4.binds (ps := ["world", "thing"]) fun _ _ _ _ _ _ us hl => match us, hl with | [_, _], _ => rfl
  have g4 := PySem.W.mg_of X G a4
  have F5 := fun_mk (st := s_refuse_no_wish) l5 c5 k5
  have b5 := F5.binds (ps := ["world", "thing"]) fun _ _ _ _ _ _ us hl => match us, hl with | [_, _], _ => rfl
  have g5 := PySem.W.mg_of X G a5
  have F6 := fun_mk (st := s_comes) l6 c6 k6
  have b6 := F6.binds (ps := ["world", "wish", "moment"]) fun _ _ _ _ _ _ us hl => match us, hl with | [_, _, _], _ => rfl
  have g6 := PySem.W.mg_of X G a6
  have F7 := fun_mk (st := s_first_wish) l7 c7 k7
  have b7 := F7.binds (ps := ["world", "wish"]) fun _ _ _ _ _ _ us hl => match us, hl with | [_, _], _ => rfl
  have g7 := PySem.W.mg_of X G a7
  have F8 := fun_mk (st := s_wish_places) l8 c8 k8
  have b8 := F8.binds (ps := ["world", "wish"]) fun _ _ _ _ _ _ us hl => match us, hl with | [_, _], _ => rfl
  have g8 := PySem.W.mg_of X G a8
  have F9 := fun_mk (st := s_wish_verdict) l9 c9 k9
  have b9 := F9.binds (ps := ["world", "wish", "moment"]) fun _ _ _ _ _ _ us hl => match us, hl with | [_, _, _], _ => rfl
  have g9 := PySem.W.mg_of X G a9
  have F10 := fun_mk (st := s_wish_holds) l10 c10 k10
  have b10 := F10.binds (ps := ["world", "wish", "moment", "thing"]) fun _ _ _ _ _ _ us hl => match us, hl with | [_, _, _, _], _ => rfl
  have g10 := PySem.W.mg_of X G a10
  have F11 := fun_mk (st := s_law_draws) l11 c11 k11
  have b11 := F11.binds (ps := ["_law_script", "_law_may"]) fun _ _ _ _ _ _ us hl => match us, hl with | [_, _], _ => rfl
  have g11 := PySem.W.mg_of X G a11
  have F12 := fun_mk (st := s_law_next) l12 c12 k12
  have b12 := F12.binds (ps := ["_law_drawn", "_law_many"]) fun _ _ _ _ _ _ us hl => match us, hl with | [_, _], _ => rfl
  have g12 := PySem.W.mg_of X G a12
  have F13 := fun_mk (st := s_law_alike) l13 c13 k13
  have b13 := F13.binds (ps := ["_law_one", "_law_other"]) fun _ _ _ _ _ _ us hl => match us, hl with | [_, _], _ => rfl
  have g13 := PySem.W.mg_of X G a13
  have F14 := fun_mk (st := s_law_whole) l14 c14 k14
  have b14 := F14.binds (ps := ["_law_thing"]) fun _ _ _ _ _ _ us hl => match us, hl with | [_], _ => rfl
  have g14 := PySem.W.mg_of X G a14
  have F15 := fun_mk (st := s_law_spoilt) l15 c15 k15
  have b15 := F15.binds (ps := ["_law_drawn", "_law_thing"]) fun _ _ _ _ _ _ us hl => match us, hl with | [_, _], _ => rfl
  have g15 := PySem.W.mg_of X G a15
  have F16 := fun_mk (st := s_law_names) l16 c16 k16
  have b16 := F16.binds (ps := ["_law_drawn", "_law_many"]) fun _ _ _ _ _ _ us hl => match us, hl with | [_, _], _ => rfl
  have g16 := PySem.W.mg_of X G a16
  have F17 := fun_mk (st := s_law_part) l17 c17 k17
  have b17 := F17.binds (ps := ["_law_drawn", "_law_kinds"]) fun _ _ _ _ _ _ us hl => match us, hl with | [_, _], _ => rfl
  have g17 := PySem.W.mg_of X G a17
  have F18 := fun_mk (st := s_law_way) l18 c18 k18
  have b18 := F18.binds (ps := ["_law_drawn", "_law_size", "_law_kinds"]) fun _ _ _ _ _ _ us hl => match us, hl with | [_, _, _], _ => rfl
  have g18 := PySem.W.mg_of X G a18
  have F19 := fun_mk (st := s_law_source) l19 c19 k19
  have b19 := F19.binds (ps := ["_law_drawn", "_law_size", "_law_kinds", "_law_late"]) fun _ _ _ _ _ _ us hl => match us, hl with | [_, _, _, _], _ => rfl
  have g19 := PySem.W.mg_of X G a19
  have F20 := fun_mk (st := s_law_world) l20 c20 k20
  have b20 := F20.binds (ps := ["_law_drawn", "_law_late"]) fun _ _ _ _ _ _ us hl => match us, hl with | [_, _], _ => rfl
  have g20 := PySem.W.mg_of X G a20
  have F21 := fun_mk (st := s_law_item) l21 c21 k21
  have b21 := F21.binds (ps := ["_law_drawn", "_law_kinds"]) fun _ _ _ _ _ _ us hl => match us, hl with | [_, _], _ => rfl
  have g21 := PySem.W.mg_of X G a21
  have F22 := fun_mk (st := s_law_wish) l22 c22 k22
  have b22 := F22.binds (ps := ["_law_drawn", "_law_world_here"]) fun _ _ _ _ _ _ us hl => match us, hl with | [_, _], _ => rfl
  have g22 := PySem.W.mg_of X G a22
  have F23 := fun_mk (st := s_law_from) l23 c23 k23
  have b23 := F23.binds (ps := ["_law_thing", "_law_low", "_law_high"]) fun _ _ _ _ _ _ us hl => match us, hl with | [_, _, _], _ => rfl
  have g23 := PySem.W.mg_of X G a23
  have F24 := fun_mk (st := s_law_look) l24 c24 k24
  have b24 := F24.binds (ps := ["_law_kinds", "_law_thing"]) fun _ _ _ _ _ _ us hl => match us, hl with | [_, _], _ => rfl
  have g24 := PySem.W.mg_of X G a24
  have F25 := fun_mk (st := s_law_refused) l25 c25 k25
  have b25 := F25.binds (ps := ["_law_way_here", "_law_world_here", "_law_wish_here"]) fun _ _ _ _ _ _ us hl => match us, hl with | [_, _, _], _ => rfl
  have g25 := PySem.W.mg_of X G a25
  have F26 := fun_mk (st := s_law) l26 c26 k26
  have b26 := F26.binds (ps := ["_law_script"]) fun _ _ _ _ _ _ us hl => match us, hl with | [_], _ => rfl
  have g26 := PySem.W.mg_of X G a26
  have m_isinstance := PySem.W.mg_none_of X G z_isinstance
  have m_int := PySem.W.mg_none_of X G z_int
  have m_bool := PySem.W.mg_none_of X G z_bool
  have m_tuple := PySem.W.mg_none_of X G z_tuple
  have m_len := PySem.W.mg_none_of X G z_len
  have m_enumerate := PySem.W.mg_none_of X G z_enumerate
  have m_list := PySem.W.mg_none_of X G z_list
  have m_range := PySem.W.mg_none_of X G z_range
  have m_str := PySem.W.mg_none_of X G z_str
  have m_sorted := PySem.W.mg_none_of X G z_sorted
  have m_min := PySem.W.mg_none_of X G z_min
  have m_repr := PySem.W.mg_none_of X G z_repr
  have g_ITEMS := PySem.W.mg_of X G y_ITEMS
  have g_LATE := PySem.W.mg_of X G y_LATE
  have FI := fun_mk (st := s_bw_init) x_li x_ci x_ki
  have bI := FI.binds (ps := ["self", "item", "word"]) fun _ _ _ _ _ _ us hl => match us, hl with | [_, _, _], _ => rfl
  have TB : ExW K mg cC cI := ⟨PySem.W.mg_of X G x_BadWish, ⟨⟨nmX, qX, NX, bsX, bmX, snX, subX, abX, colX, ddX, k0X, k1X, k2X, k3X, k5X, x_l, x_r⟩, x_sa, x_b, x_t, x_k⟩, x_i, x_ti, x_n1, x_n2⟩
  have TV : ExV K mg cA cC w1 w2 := ⟨PySem.W.mg_of X G x_AgeError, PySem.W.mg_of X G x_BadWish, PySem.W.mg_of X G x_BadPaper, PySem.W.mg_of X G x_BadWorld, PySem.W.exm_ref x_b x_hd x_t x_cc, ⟨x_hg, x_hk, x_b, x_hd, x_ha, x_hn, x_ht, x_hm⟩, ⟨x_hg, x_hk, x_b, x_hd⟩, x_n1, x_n2, kit_any0 (fun c hc => by
    simp only [List.mem_cons, List.not_mem_nil, or_false] at hc
    rcases hc with rfl | rfl
    · exact kit_no d_w1 t_w1 s_w1 x_cc
    · exact kit_no d_w2 t_w2 s_w2 x_cc), kit_yes x_da x_ta x_ca⟩
  refine ⟨PySem.W.fnOf "law" "law" (defArgs s_law) (defBody s_law) (defScope s_law) .none kV26 dc26 pm26 an26 cd26 ct26, fun s v => .of_eq rfl, fun base _ _ hB => ?_⟩
  have C0 : Cl l.prog w K mg base 1 "is_number" ["thing"] (spD 1 sNum) := ⟨f0, _, ok_num F0 m_isinstance m_int m_bool, g0, F0.kp, b0⟩
  have C1 : Cl l.prog w K mg base 2 "is_number_from" ["thing", "low", "high"] (spD 3 sFrom) := ⟨f1, _, ok_from F1 C0, g1, F1.kp, b1⟩
  have C2 : Cl l.prog w K mg base 1 "is_row" ["thing", "fewest", "most"] (spD 3 sRow) := ⟨f2, _, ok_row F2 m_isinstance m_tuple m_len, g2, F2.kp, b2⟩
  have C3 : Cl l.prog w K mg base 3 "item_word" ["world", "item", "latest"] (spD 3 SIwA.f) := ⟨f3, _, ok_iwA F3 C2 C1, g3, F3.kp, b3⟩
  have C4 : Cl l.prog w K mg base 4 "wishfault" ["world", "thing"] (spD 2 SWfA.f) := ⟨f4, _, ok_wfA F4 m_enumerate g_ITEMS g_LATE C2 C3, g4, F4.kp, b4⟩
  have C5 : FnOk l.prog w K mg base (L2.CX l.prog w) 5 f5 _ ["world", "thing"] (spZ cC 2) := ok_refuse F5 TB (ok_init FI) bI C4
  have C6 : FnOk l.prog w K mg base (L2.CX l.prog w) 6 f6 _ ["world", "wish", "moment"] (spZ cC 3) := ok_d_comes F6 C5 g5 F5.kp b5
  have C7 : FnOk l.prog w K mg base (L2.CX l.prog w) 6 f7 _ ["world", "wish"] (spZ cC 2) := ok_d_first_wish F7 C5 g5 F5.kp b5
  have C8 : FnOk l.prog w K mg base (L2.CX l.prog w) 6 f8 _ ["world", "wish"] (spZ cC 2) := ok_d_wish_places F8 C5 g5 F5.kp b5
  have C9 : FnOk l.prog w K mg base (L2.CX l.prog w) 6 f9 _ ["world", "wish", "moment"] (spZ cC 3) := ok_d_wish_verdict F9 C5 g5 F5.kp b5
  have C10 : FnOk l.prog w K mg base (L2.CX l.prog w) 6 f10 _ ["world", "wish", "moment", "thing"] (spZ cC 4) := ok_d_wish_holds F10 C5 g5 F5.kp b5
  have C11 : Cl l.prog w K mg base 1 "_law_draws" ["_law_script", "_law_may"] (spDraws K) := ⟨f11, _, ok_draws (k := 0) F11 m_len m_list m_int, g11, F11.kp, b11⟩
  have C12 : Cl l.prog w K mg base 1 "_law_next" ["_law_drawn", "_law_many"] (spN 1 gNext) := ⟨f12, _, ok_nextN (ok_next (k := 0) F12 m_len), g12, F12.kp, b12⟩
  have C13 : Cl l.prog w K mg base 6 "_law_alike" ["_law_one", "_law_other"] (spD 2 (sAl (dpB 6))) := ⟨f13, _, ok_alike F13 b13 g13 m_isinstance m_tuple m_bool m_int m_len m_range, g13, F13.kp, b13⟩
  have C14 : Cl l.prog w K mg base 1 "_law_whole" ["_law_thing"] (spD 1 sWho) := ⟨f14, _, ok_who F14 m_isinstance m_int m_bool, g14, F14.kp, b14⟩
  have C15 : Cl l.prog w K mg base 13 "_law_spoilt" ["_law_drawn", "_law_thing"] (spN 1 (gSpW 12)) := ⟨f15, _, ok_spoilt F15 b15 g15 m_isinstance m_tuple m_len m_str C12 C14, g15, F15.kp, b15⟩
  have C16 : Cl l.prog w K mg base 2 "_law_names" ["_law_drawn", "_law_many"] (spN 1 gNames) := ⟨f16, _, ok_names F16 m_range m_len m_sorted m_tuple m_list C12, g16, F16.kp, b16⟩
  have C17 : Cl l.prog w K mg base 2 "_law_part" ["_law_drawn", "_law_kinds"] (spN 1 gPart) := ⟨f17, _, ok_part F17 m_min m_len C12, g17, F17.kp, b17⟩
  have C18 : Cl l.prog w K mg base 3 "_law_way" ["_law_drawn", "_law_size", "_law_kinds"] (spN 2 gWay) := ⟨f18, _, ok_way F18 m_range m_tuple m_len C12 C17, g18, F18.kp, b18⟩
  have C19 : Cl l.prog w K mg base 2 "_law_source" ["_law_drawn", "_law_size", "_law_kinds", "_law_late"] (spN 3 gSource) := ⟨f19, _, ok_source F19 m_len C12, g19, F19.kp, b19⟩
  have C20 : Cl l.prog w K mg base 4 "_law_world" ["_law_drawn", "_law_late"] (spN 1 gWorld) := ⟨f20, _, ok_world F20 m_range m_tuple C12 C16 C19 C18, g20, F20.kp, b20⟩
  have C21 : Cl l.prog w K mg base 2 "_law_item" ["_law_drawn", "_law_kinds"] (spN 1 gItem) := ⟨f21, _, ok_item F21 m_len m_min C12, g21, F21.kp, b21⟩
  have C22 : Cl l.prog w K mg base 3 "_law_wish" ["_law_drawn", "_law_world_here"] (spN 1 gWish) := ⟨f22, _, ok_wish F22 m_range m_tuple C12 C21, g22, F22.kp, b22⟩
  have C23 : Cl l.prog w K mg base 2 "_law_from" ["_law_thing", "_law_low", "_law_high"] (spD 3 sFrom) := ⟨f23, _, ok_lfrom F23 C14, g23, F23.kp, b23⟩
  have C24 : Cl l.prog w K mg base 3 "_law_look" ["_law_kinds", "_law_thing"] (spD 2 SLok.f) := ⟨f24, _, ok_look F24 m_isinstance m_tuple m_str m_len m_range C23, g24, F24.kp, b24⟩
  have C25 : Cl l.prog w K mg base 7 "_law_refused" ["_law_way_here", "_law_world_here", "_law_wish_here"] (spD 3 SRef.f) := ⟨f25, _, ok_refused F25 TV m_isinstance C6 g6 F6.kp b6 C7 g7 F7.kp b7 C8 g8 F8.kp b8 C9 g9 F9.kp b9 C10 g10 F10.kp b10, g25, F25.kp, b25⟩
  exact ok_law F26 hB m_repr m_range g_ITEMS g_LATE C11 C12 C20 C22 C15 C24 C4 C13 C25
end Dl
open PySem PySem.W PyProof.Rows
set_option maxHeartbeats 0 in
theorem PySem.Challenge.cw_rightage_k28_wishes_judged_holds : PySem.Challenge.rw_rightage_k28_wishes_judged.Holds := by
  w_on; o_law; k_head; (case hw => w_witness2)
  k_fill
  refine Dl.walk_G2 (l := PySem.Challenge.rw_rightage_k28_wishes_judged) (n := 63) (k := 14) (x := "_law_script") (sp := fun w => Dl.spLaw _) (by decide +kernel) rfl (by decide) rfl ⟨rfl, by decide, by decide⟩ (fun w h Y => PySem.W.kIn_of Y) ?F (fun _ _ a ns hl _ hS => ⟨a, ns, rfl, hS, hl, fun _ => rfl⟩)
  case F =>
    intro w mg fa h KX G hmg
    refine' Dl.all_mk KX G hmg ?a0 ?l0 ?c0 ?k0 ?a1 ?l1 ?c1 ?k1 ?a2 ?l2 ?c2 ?k2 ?a3 ?l3 ?c3 ?k3 ?a4 ?l4 ?c4 ?k4 ?a5 ?l5 ?c5 ?k5 ?a6 ?l6 ?c6 ?k6 ?a7 ?l7 ?c7 ?k7 ?a8 ?l8 ?c8 ?k8 ?a9 ?l9 ?c9 ?k9 ?a10 ?l10 ?c10 ?k10 ?a11 ?l11 ?c11 ?k11 ?a12 ?l12 ?c12 ?k12 ?a13 ?l13 ?c13 ?k13 ?a14 ?l14 ?c14 ?k14 ?a15 ?l15 ?c15 ?k15 ?a16 ?l16 ?c16 ?k16 ?a17 ?l17 ?c17 ?k17 ?a18 ?l18 ?c18 ?k18 ?a19 ?l19 ?c19 ?k19 ?a20 ?l20 ?c20 ?k20 ?a21 ?l21 ?c21 ?k21 ?a22 ?l22 ?c22 ?k22 ?a23 ?l23 ?c23 ?k23 ?a24 ?l24 ?c24 ?k24 ?a25 ?l25 ?c25 ?k25 ?a26 ?l26 ?c26 ?k26 ?z_isinstance ?z_int ?z_bool ?z_tuple ?z_len ?z_enumerate ?z_list ?z_range ?z_str ?z_sorted ?z_min ?z_repr ?y_ITEMS ?y_LATE ?x_AgeError ?x_BadWish ?x_BadPaper ?x_BadWorld ?x_l ?x_r ?x_sa ?x_k ?x_b ?x_t ?x_i ?x_ti ?x_li ?x_ci ?x_ki ?x_n1 ?x_n2 ?x_da ?x_ta ?x_ca ?x_cc ?x_hg ?x_hk ?x_hd ?x_ha ?x_hn ?x_ht ?x_hm ?d_w1 ?t_w1 ?s_w1 ?d_w2 ?t_w2 ?s_w2
    (case a0 => k_is)
    (case l0 => k_is)
    (case c0 => k_is)
    (case k0 => k_is)
    (case a1 => k_is)
    (case l1 => k_is)
    (case c1 => k_is)
    (case k1 => k_is)
    (case a2 => k_is)
    (case l2 => k_is)
    (case c2 => k_is)
    (case k2 => k_is)
    (case a3 => k_is)
    (case l3 => k_is)
    (case c3 => k_is)
    (case k3 => k_is)
    (case a4 => k_is)
    (case l4 => k_is)
    (case c4 => k_is)
    (case k4 => k_is)
    (case a5 => k_is)
    (case l5 => k_is)
    (case c5 => k_is)
    (case k5 => k_is)
    (case a6 => k_is)
    (case l6 => k_is)
    (case c6 => k_is)
    (case k6 => k_is)
    (case a7 => k_is)
    (case l7 => k_is)
    (case c7 => k_is)
    (case k7 => k_is)
    (case a8 => k_is)
    (case l8 => k_is)
    (case c8 => k_is)
    (case k8 => k_is)
    (case a9 => k_is)
    (case l9 => k_is)
    (case c9 => k_is)
    (case k9 => k_is)
    (case a10 => k_is)
    (case l10 => k_is)
    (case c10 => k_is)
    (case k10 => k_is)
    (case a11 => k_is)
    (case l11 => k_is)
    (case c11 => k_is)
    (case k11 => k_is)
    (case a12 => k_is)
    (case l12 => k_is)
    (case c12 => k_is)
    (case k12 => k_is)
    (case a13 => k_is)
    (case l13 => k_is)
    (case c13 => k_is)
    (case k13 => k_is)
    (case a14 => k_is)
    (case l14 => k_is)
    (case c14 => k_is)
    (case k14 => k_is)
    (case a15 => k_is)
    (case l15 => k_is)
    (case c15 => k_is)
    (case k15 => k_is)
    (case a16 => k_is)
    (case l16 => k_is)
    (case c16 => k_is)
    (case k16 => k_is)
    (case a17 => k_is)
    (case l17 => k_is)
    (case c17 => k_is)
    (case k17 => k_is)
    (case a18 => k_is)
    (case l18 => k_is)
    (case c18 => k_is)
    (case k18 => k_is)
    (case a19 => k_is)
    (case l19 => k_is)
    (case c19 => k_is)
    (case k19 => k_is)
    (case a20 => k_is)
    (case l20 => k_is)
    (case c20 => k_is)
    (case k20 => k_is)
    (case a21 => k_is)
    (case l21 => k_is)
    (case c21 => k_is)
    (case k21 => k_is)
    (case a22 => k_is)
    (case l22 => k_is)
    (case c22 => k_is)
    (case k22 => k_is)
    (case a23 => k_is)
    (case l23 => k_is)
    (case c23 => k_is)
    (case k23 => k_is)
    (case a24 => k_is)
    (case l24 => k_is)
    (case c24 => k_is)
    (case k24 => k_is)
    (case a25 => k_is)
    (case l25 => k_is)
    (case c25 => k_is)
    (case k25 => k_is)
    (case a26 => k_is)
    (case l26 => k_is)
    (case c26 => k_is)
    (case k26 => k_is)
    (case z_isinstance => k_is)
    (case z_int => k_is)
    (case z_bool => k_is)
    (case z_tuple => k_is)
    (case z_len => k_is)
    (case z_enumerate => k_is)
    (case z_list => k_is)
    (case z_range => k_is)
    (case z_str => k_is)
    (case z_sorted => k_is)
    (case z_min => k_is)
    (case z_repr => k_is)
    (case y_ITEMS => k_is)
    (case y_LATE => k_is)
    (case x_AgeError => k_is)
    (case x_BadWish => k_is)
    (case x_BadPaper => k_is)
    (case x_BadWorld => k_is)
    (case x_l => k_is)
    (case x_r => decide +kernel)
    (case x_sa => k_is)
    (case x_k => k_is)
    (case x_b => k_is)
    (case x_t => k_is)
    (case x_i => k_is)
    (case x_ti => k_is)
    (case x_li => k_is)
    (case x_ci => k_is)
    (case x_ki => k_is)
    (case x_n1 => k_is)
    (case x_n2 => k_is)
    (case x_da => k_is)
    (case x_ta => k_is)
    (case x_ca => k_is)
    (case x_cc => k_is)
    (case x_hg => k_is)
    (case x_hk => k_is)
    (case x_hd => k_is)
    (case x_ha => k_is)
    (case x_hn => k_is)
    (case x_ht => k_is)
    (case x_hm => k_is)
    (case d_w1 => k_is)
    (case t_w1 => k_is)
    (case s_w1 => k_is)
    (case d_w2 => k_is)
    (case t_w2 => k_is)
    (case s_w2 => k_is)
