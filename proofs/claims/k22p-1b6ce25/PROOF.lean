import PyProof.Rows.All
import Wide.All
import OpenK.AllK
import Wide.FinOn
import HandS.ForMost
import HandS.IsInst
import HandS.FStr
import HandS.Lambda
import HandS.TupAny
import HandS.Star
import HandS.Strs
import HandS.Deep
import KE.GoesMore
import PyProof.EnumMake
import HandS.Property
import HandS.MakeKwOnly
import KE.KCallOwn
import OpenK.KOps
import HandS.Conv
import HandS.Defaults
import PyProof.ListTruth
import HandS.Small
import HandS.OwnEq
import HandS.Codes
import PyProof.CollectIter
import HandS.ClsMeth
import HandS.ExcInitHot
import HandS.ExcCtx
import HandS.ExcInit
import HandS.WordsExc
import HandS.ExcOwn
import HandS.HotCalls
import HandS.ExcIs
import HandS.ExcField
import KE.KExcIs
import HandS.SetBool
import PyProof.Rows.SetFrom
import HandS.Dict
import HandS.Text
import HandS.SuiteRaise
import HandS.RaiseFrom
import HandS.NoneIn
import HandS.List
import HandS.TupMul
import PyProof.StrBlock2
import HandS.Exc
import PyProof.InstStore
import PyProof.InstStoreFacts
import HandS.More
import HandS.EndTab
import KE.KNestM
import PySem.Challenge.RW_joinrounds_k22_errors_of_rows_in_order
set_option Elab.async false
set_option linter.all false
set_option maxRecDepth 100000
set_option maxHeartbeats 0
set_option autoImplicit false
namespace J
@[elab_as_elim] theorem len1 {α : Type} {P : List α → Prop} : ∀ (us : List α), us.length = 1 → (∀ a, P [a]) → P us
  | [a], _, k => k a
@[elab_as_elim] theorem len2 {α : Type} {P : List α → Prop} : ∀ (us : List α), us.length = 2 → (∀ a b, P [a, b]) → P us
  | [a, b], _, k => k a b
@[elab_as_elim] theorem len3 {α : Type} {P : List α → Prop} : ∀ (us : List α), us.length = 3 → (∀ a b c, P [a, b, c]) → P us
  | [a, b, c], _, k => k a b c
@[elab_as_elim] theorem len4 {α : Type} {P : List α → Prop} : ∀ (us : List α), us.length = 4 → (∀ a b c d, P [a, b, c, d]) → P us
  | [a, b, c, d], _, k => k a b c d
end J
namespace J
open PySem PySem.Spec
open PyProof.Rows L2
noncomputable def Nt (o : HO) : Prop := ∀ q, o ≠ .tbl q
noncomputable def Pl (o : HO) : Prop := Nt o ∧ ∀ f, o ≠ .ext f
noncomputable def noTab : Option HO → Option HO
  | some (.tbl _) => none
  | x => x
theorem noTab_some {x : Option HO} {o : HO} (h : noTab x = some o) : x = some o ∧ Nt o := by
  match x, h with
  | some (.tbl q), h => cases h
  | none, h => cases h
  | some (.lst _), h | some (.tup _), h | some (.dK _), h | some (.dT _), h | some (.set _ _), h | some (.ins _ _ _), h | some (.own _), h | some (.xd _), h | some (.met _ _), h | some (.rng _ _), h | some (.frz _ _), h | some (.ext _), h =>
    refine ⟨h, fun q z => ?_⟩
    rw [z] at h
    cases h
theorem noTab_of {x : Option HO} {o : HO} (h : x = some o) (n : Nt o) : noTab x = some o := by
  subst h
  cases o <;> first | rfl | exact absurd rfl (n _)
noncomputable def dl (H : Hp) (S : List Addr) : Hp := fun b => if b ∈ S then none else noTab (H b)
noncomputable def Fr (S : List Addr) (H H' : Hp) : Prop := ∀ b o, H b = some o → b ∉ S → Nt o → H' b = some o
theorem Fr.refl {S : List Addr} {H : Hp} : Fr S H H := fun _ _ h _ _ => h
theorem Fr.trans {S : List Addr} {H H1 H2 : Hp} (a : Fr S H H1) (b : Fr S H1 H2) : Fr S H H2 := fun x o h n m => b x o (a x o h n m) n m
theorem Fr.of_same {S : List Addr} {H H1 : Hp} (a : Same H H1) : Fr S H H1 := fun x o h _ _ => a x o h
theorem Same.new {H : Hp} {p : Addr} {o : HO} (h : H p = none) : Same H (upd H p o) := fun a u e => by
  rw [upd_ne (ne_of_none e h)]
  exact e
noncomputable def Nw (H : Hp) (p : Addr) : Prop := ∀ o, H p = some o → ¬ Nt o
theorem Nw.of {H : Hp} {p : Addr} (h : H p = none) : Nw H p := fun o e => by rw [h] at e; cases e
theorem Nw.back {S : List Addr} {H H1 : Hp} {p : Addr} (f : Fr S H H1) (h : Nw H1 p) (n : p ∉ S) : Nw H p := fun o e nt => h o (f p o e n nt) nt
theorem Nw.ne {H : Hp} {p b : Addr} {o : HO} (e : H b = some o) (nt : Nt o) (h : Nw H p) : b ≠ p := fun z => h o (z ▸ e) nt
theorem dl_some {H : Hp} {S : List Addr} {b : Addr} {o : HO} (h : dl H S b = some o) : b ∉ S ∧ H b = some o := by
  unfold dl at h
  by_cases hb : b ∈ S
  · rw [if_pos hb] at h; cases h
  · rw [if_neg hb] at h; exact ⟨hb, (noTab_some h).1⟩
theorem dl_nt {H : Hp} {S : List Addr} {b : Addr} {o : HO} (h : dl H S b = some o) : Nt o := by
  unfold dl at h
  by_cases hb : b ∈ S
  · rw [if_pos hb] at h; cases h
  · rw [if_neg hb] at h; exact (noTab_some h).2
theorem dl_of {H : Hp} {S : List Addr} {b : Addr} {o : HO} (hb : b ∉ S) (h : H b = some o) (n : Nt o := by intro q z; cases z) : dl H S b = some o := by
  unfold dl
  rw [if_neg hb]
  exact noTab_of h n
theorem dl_same {H : Hp} {S : List Addr} : Same (dl H S) H := fun b o h => (dl_some h).2
theorem Fr.sameDl {S T : List Addr} {H H' : Hp} (f : Fr S H H') (h : ∀ b ∈ S, b ∈ T) : Same (dl H T) (dl H' T) := fun b o e => by
  have nt := dl_nt e
  obtain ⟨n, e⟩ := dl_some e
  exact dl_of n (f b o e (fun z => n (h b z)) nt) nt
theorem dl_sub {H : Hp} {S T : List Addr} (h : ∀ b ∈ T, b ∈ S) : Same (dl H S) (dl H T) := fun b o e => by
  have nt := dl_nt e
  obtain ⟨n, e⟩ := dl_some e
  exact dl_of (fun z => n (h b z)) e nt
noncomputable def lamDefs : List Str := ["_law_fits", "_law_right", "_law_asked", "_law_read_fits", "_law_by_hand", "_law_cleared", "_law_all_of", "law"]
noncomputable def lamMark (x : Str) (c : Str → Bool) : Bool := if x == "_law_right" then (c "_law_made" || (c "_law_one" || (c "_law_row_here" || (c "_law_line_here" || (c "_law_things" || (c "_law_thing" || (c "_law_told_here" && !c "_law_mine"))))))) else if x == "law" then c "_law_thing" else true
noncomputable def hasCell (K : PySem.W.Frag) (x : Str) : Bool := match PySem.W.nsIn K mainGlobals x with
  | some (some (.ref f)) => (match K.lookup f with
    | some ⟨_, _, .func fd, _⟩ => lamMark x fun n => decide (fd.scope.names.lookup n = some NameKind.cell)
    | _ => false)
  | _ => false
noncomputable def lamTab (K : PySem.W.Frag) (x : Str) : Option (Addr × Addr) := if hasCell K x = true then PySem.W.tabIn K x else none
theorem lamTab_in {K : PySem.W.Frag} {x : Str} {cp : Addr × Addr} (h : lamTab K x = some cp) : PySem.W.tabIn K x = some cp := by
  unfold lamTab at h
  split at h
  · exact h
  · cases h
noncomputable def tabsK (K : PySem.W.Frag) : List (Addr × Str) := lamDefs.filterMap fun x => (lamTab K x).map fun cp => (cp.2, x ++ ".<locals>." ++ "<lambda>")
theorem tabs_fr {T : List (Addr × Str)} {H H' : Hp} (t : LamX.Tabs T H) (h1 : ∀ b o, H b = some o → ¬ Pl o → H' b = some o) : LamX.Tabs T H' := fun p hp => by
  obtain ⟨ps, e, t3, h3⟩ := t p hp
  refine ⟨ps, h1 _ _ e (fun z => z.1 ps rfl), t3, fun pos cv hc => ?_⟩
  obtain ⟨c, e1, e2⟩ := h3 pos cv hc
  exact ⟨c, e1, h1 _ _ e2 (fun z => z.2 _ rfl)⟩
theorem tabs_upd {T : List (Addr × Str)} {H : Hp} {a : Addr} {o : HO} (t : LamX.Tabs T H) (h : ∀ u, H a = some u → Pl u) : LamX.Tabs T (upd H a o) := tabs_fr t fun b u e n => by
  have nb : b ≠ a := fun z => by
    rw [z] at e
    exact n (h u e)
  rw [upd_ne nb]
  exact e
noncomputable def keyD : Key → PyData
  | .inl i => .int i
  | .inr s => .str s
mutual
inductive Dq (H : Hp) : V → PyData → Prop
  | non : Dq H .non .none
  | bl (b : Bool) : Dq H (.bl b) (.bool b)
  | int (i : Int) : Dq H (.int i) (.int i)
  | str (x : Str) : Dq H (.str x) (.str x)
  | lst {a : Addr} {xs : List V} {ds : List PyData} : H a = some (.lst xs) → DqAll H xs ds → Dq H (.ref a) (.list ds)
  | tup {a : Addr} {xs : List V} {ds : List PyData} : H a = some (.tup xs) → DqAll H xs ds → Dq H (.ref a) (.tuple ds)
  | ins {x C dx : Addr} {ws : List (Str × V)} {ns : List Str} {ds : List PyData} : H x = some (.ins C dx ws) → ws.map (·.1) = ns → DqAll H (ws.map (·.2)) ds → Dq H (.ref x) (.dict ((.none, .int (C : Nat)) :: (ns.map .str).zip ds))
  | dic {a : Addr} {kvs : List (Key × V)} {ks : List Key} {ds : List PyData} : H a = some (.dK kvs) → kvs.map (·.1) = ks → DqAll H (kvs.map (·.2)) ds → Dq H (.ref a) (.dict ((ks.map keyD).zip ds))
inductive DqAll (H : Hp) : List V → List PyData → Prop
  | nil : DqAll H [] []
  | cons {v : V} {vs : List V} {d : PyData} {ds : List PyData} : Dq H v d → DqAll H vs ds → DqAll H (v :: vs) (d :: ds)
end
section
variable {K : PySem.W.Frag} {H H' : Hp}
mutual
theorem Dq.dp (e : Same H H') : ∀ (d : PyData) (v : V), Dq H v d → d.canLay0 = true → Dp K H' v d
  | .none, _, h, _ => by cases h; exact .non
  | .bool b, _, h, _ => by cases h; exact .bl b
  | .int i, _, h, _ => by cases h; exact .int i
  | .str x, _, h, _ => by cases h; exact .str x
  | .list ds, _, h, c => by
    simp only [PyData.canLay0] at c
    cases h with
    | lst hs ha => exact .lst (SqL.of (e _ _ hs)) (DqAll.dp e ds _ ha c)
  | .tuple ds, _, h, c => by
    simp only [PyData.canLay0] at c
    cases h with
    | tup hs ha => exact .tup (SqT.of (e _ _ hs)) (DqAll.dp e ds _ ha c)
  | .dict _, _, _, c => by simp [PyData.canLay0] at c
theorem DqAll.dp (e : Same H H') : ∀ (ds : List PyData) (vs : List V), DqAll H vs ds → PyData.canLayAll0 ds = true → DpAll K H' vs ds
  | [], _, h, _ => by cases h; exact .nil
  | d :: ds, _, h, c => by
    simp only [PyData.canLayAll0, Bool.and_eq_true] at c
    cases h with
    | cons h1 h2 => exact .cons (Dq.dp e d _ h1 c.1) (DqAll.dp e ds _ h2 c.2)
end
end
section
variable {K : PySem.W.Frag} {H H' : Hp}
theorem dq_mono (e : Same H H') (d : PyData) (v : V) (h : Dq H v d) : Dq H' v d :=
  Dq.rec (motive_1 := fun v d _ => Dq H' v d) (motive_2 := fun vs ds _ => DqAll H' vs ds) .non (fun b => .bl b) (fun i => .int i) (fun x => .str x)
    (fun hs _ ih => .lst (e _ _ hs) ih) (fun hs _ ih => .tup (e _ _ hs) ih) (fun hx hn _ ih => .ins (e _ _ hx) hn ih) (fun hx hn _ ih => .dic (e _ _ hx) hn ih) .nil (fun _ _ i1 i2 => .cons i1 i2) h
theorem dqAll_mono (e : Same H H') : ∀ (ds : List PyData) (vs : List V), DqAll H vs ds → DqAll H' vs ds
  | [], _, h => by cases h; exact .nil
  | d :: ds, _, h => by
    cases h with
    | cons h1 h2 => exact .cons (dq_mono e d _ h1) (dqAll_mono e ds _ h2)
theorem dqAll_get : ∀ {vs : List V} {ds : List PyData} {i : Nat} {d : PyData}, DqAll H vs ds → ds[i]? = some d → ∃ v, vs[i]? = some v ∧ Dq H v d
  | [], _, i, d, h, e => by cases h; simp at e
  | v :: vs, _, 0, d, h, e => by
    cases h with
    | cons h1 h2 => simp at e; subst e; exact ⟨v, by simp, h1⟩
  | v :: vs, _, i + 1, d, h, e => by
    cases h with
    | cons h1 h2 =>
      obtain ⟨u, hu, hd⟩ := dqAll_get (i := i) h2 (by simpa using e)
      exact ⟨u, by simpa using hu, hd⟩
theorem dqAll_getV : ∀ {vs : List V} {ds : List PyData} {i : Nat} {v : V}, DqAll H vs ds → vs[i]? = some v → ∃ d, ds[i]? = some d ∧ Dq H v d
  | [], _, i, v, h, e => by simp at e
  | w :: vs, _, 0, v, h, e => by
    cases h with
    | cons h1 h2 => simp at e; subst e; exact ⟨_, by simp, h1⟩
  | w :: vs, _, i + 1, v, h, e => by
    cases h with
    | cons h1 h2 =>
      obtain ⟨u, hu, hd⟩ := dqAll_getV (i := i) h2 (by simpa using e)
      exact ⟨u, by simpa using hu, hd⟩
theorem dqAll_len : ∀ {vs : List V} {ds : List PyData}, DqAll H vs ds → vs.length = ds.length
  | [], _, h => by cases h; rfl
  | v :: vs, _, h => by
    cases h with
    | cons h1 h2 => simp [dqAll_len h2]
theorem dqAll_append : ∀ {vs ws : List V} {ds es : List PyData}, DqAll H vs ds → DqAll H ws es → DqAll H (vs ++ ws) (ds ++ es)
  | [], ws, _, es, h, g => by cases h; exact g
  | v :: vs, ws, _, es, h, g => by
    cases h with
    | cons h1 h2 => exact .cons h1 (dqAll_append h2 g)
theorem dqAll_take : ∀ (n : Nat) {vs : List V} {ds : List PyData}, DqAll H vs ds → DqAll H (vs.take n) (ds.take n)
  | 0, _, _, h => by simp; exact .nil
  | n + 1, [], _, h => by cases h; exact .nil
  | n + 1, v :: vs, _, h => by
    cases h with
    | cons h1 h2 => exact .cons h1 (dqAll_take n h2)
theorem dqAll_drop : ∀ (n : Nat) {vs : List V} {ds : List PyData}, DqAll H vs ds → DqAll H (vs.drop n) (ds.drop n)
  | 0, _, _, h => by simpa using h
  | n + 1, [], _, h => by cases h; exact .nil
  | n + 1, v :: vs, _, h => by
    cases h with
    | cons h1 h2 => simpa using dqAll_drop n h2
theorem dqAll_strs : ∀ (ys : List Str), DqAll H (ys.map V.str) (ys.map PyData.str)
  | [] => .nil
  | y :: ys => .cons (.str y) (dqAll_strs ys)
theorem dqAll_strs' : ∀ {ys : List Str} {vs : List V}, DqAll H vs (ys.map PyData.str) → vs = ys.map V.str
  | [], _, h => by cases h; rfl
  | y :: ys, _, h => by
    cases h with
    | cons h1 h2 => cases h1; rw [dqAll_strs' h2]; rfl
end
inductive Ent where
  | dat (d : PyData)
  | ptr (k : Nat)
  | obj (C : Addr) (fs : List (Str × PyData))
  | scr (ns : List Int)
  | raw (u : V)
  | exc (a d : Addr) (fs : List (Str × PyData))
noncomputable abbrev REnv := List (Option Ent)
noncomputable abbrev Sto := List (List PyData)
structure Wd where
  α : List Addr
  ξ : List Addr
noncomputable abbrev Wd.all (w : Wd) : List Addr := w.α ++ w.ξ
noncomputable def Val (K : PySem.W.Frag) (H : Hp) (w : Wd) (v : V) : Ent → Prop
  | .dat d => Dq (dl H w.all) v d
  | .ptr k => ∃ a, w.α[k]? = some a ∧ v = .ref a
  | .obj C fs => ∃ x dx ws, v = .ref x ∧ dl H w.all x = some (.ins C dx ws) ∧ ws.map (·.1) = fs.map (·.1) ∧ DqAll (dl H w.all) (ws.map (·.2)) (fs.map (·.2))
  | .scr ns => ∃ a, v = .ref a ∧ SqL K (dl H w.all) a (ns.map V.int)
  | .raw u => v = u
  | .exc a d fs => v = .ref a ∧ ∃ ws, dl H w.all d = some (.xd ws) ∧ ws.map (·.1) = fs.map (·.1) ∧ DqAll (dl H w.all) (ws.map (·.2)) (fs.map (·.2))
noncomputable def obD (C : Addr) (fs : List (Str × PyData)) : PyData := .dict ((.none, .int (C : Nat)) :: ((fs.map (·.1)).map .str).zip (fs.map (·.2)))
theorem val_obD {K : PySem.W.Frag} {H : Hp} {w : Wd} {v : V} {C : Addr} {fs : List (Str × PyData)} (h : Val K H w v (.obj C fs)) : Val K H w v (.dat (obD C fs)) := by
  obtain ⟨x, dx, ws, rfl, hx, hn, hd⟩ := h
  exact Dq.ins hx hn hd
theorem zip_inj : ∀ {ns ms : List Str} {ds es : List PyData}, ns.length = ds.length → ms.length = es.length → (ns.map PyData.str).zip ds = (ms.map PyData.str).zip es → ns = ms ∧ ds = es
  | [], [], [], [], _, _, _ => ⟨rfl, rfl⟩
  | [], m :: ms, [], e :: es, _, _, h => by simp at h
  | n :: ns, [], d :: ds, [], _, _, h => by simp at h
  | n :: ns, m :: ms, d :: ds, e :: es, h1, h2, h => by
    simp only [List.map_cons, List.zip_cons_cons, List.cons.injEq, Prod.mk.injEq, PyData.str.injEq] at h
    obtain ⟨⟨rfl, rfl⟩, h⟩ := h
    obtain ⟨rfl, rfl⟩ := zip_inj (by simpa using h1) (by simpa using h2) h
    exact ⟨rfl, rfl⟩
  | [], _, _ :: _, _, h1, _, _ => by simp at h1
  | _ :: _, _, [], _, h1, _, _ => by simp at h1
  | _, [], _, _ :: _, _, h2, _ => by simp at h2
  | _, _ :: _, _, [], _, h2, _ => by simp at h2
theorem val_obj {K : PySem.W.Frag} {H : Hp} {w : Wd} {v : V} {C : Addr} {fs : List (Str × PyData)} (h : Val K H w v (.dat (obD C fs))) : Val K H w v (.obj C fs) := by
  have h' : Dq (dl H w.all) v (obD C fs) := h
  unfold obD at h'
  generalize e : PyData.dict ((PyData.none, PyData.int (C : Nat)) :: ((fs.map (·.1)).map PyData.str).zip (fs.map (·.2))) = d at h'
  cases h' with
  | @ins x C' dx ws ns ds hx hn hd =>
    injection e with e
    injection e with e1 e2
    injection e1 with _ e1
    injection e1 with e1
    have hl : ns.length = ds.length := by rw [← hn, List.length_map, ← dqAll_len hd, List.length_map]
    obtain ⟨q1, q2⟩ := zip_inj (by simp) hl e2
    have : C = C' := by exact Int.ofNat.inj e1
    subst this
    subst q2
    exact ⟨x, dx, ws, rfl, hx, by rw [hn, q1], hd⟩
  | @dic a kvs ks ds hx hn hd =>
    exfalso
    injection e with e
    cases ks with
    | nil => simp at e
    | cons k ks =>
      cases ds with
      | nil => simp at e
      | cons d ds =>
        simp only [List.map_cons, List.zip_cons_cons, List.cons.injEq, Prod.mk.injEq] at e
        obtain ⟨⟨e, _⟩, _⟩ := e
        cases k <;> cases e
  | _ => cases e
structure Mem (K : PySem.W.Frag) (H : Hp) (w : Wd) (μ : Sto) : Prop where
  nd : w.α.Nodup
  len : w.α.length = μ.length
  cell : ∀ (k : Nat) (a : Addr) (xs : List PyData), w.α[k]? = some a → μ[k]? = some xs → ∃ vs, H a = some (.lst vs) ∧ DqAll (dl H w.all) vs xs
  out : ∀ b ∈ w.ξ, b ∉ w.α
  ext : ∀ b ∈ w.ξ, ∃ o, H b = some o ∧ Pl o
  tab : LamX.Tabs (tabsK K) H
structure Sl (K : PySem.W.Frag) (H : Hp) (w : Wd) (σ : L2.St) (ρ : REnv) : Prop where
  len : σ.length = ρ.length
  at_ : ∀ (i : Nat) (r : Ent), ρ[i]? = some (some r) → ∃ v, σ[i]? = some (some v) ∧ Val K H w v r
section
variable {K : PySem.W.Frag} {H H' : Hp} {w : Wd} {μ : Sto} {σ : L2.St} {ρ : REnv} {v : V} {r : Ent}
theorem Fr.all (f : Fr w.α H H') : Same (dl H w.all) (dl H' w.all) := f.sameDl fun b h => List.mem_append_left _ h
theorem Val.same (h : Val K H w v r) (f : Same (dl H w.all) (dl H' w.all)) : Val K H' w v r := by
  cases r with
  | dat d => exact dq_mono f d v h
  | ptr k => exact h
  | obj C fs =>
    obtain ⟨x, dx, ws, e, hx, hn, hd⟩ := h
    exact ⟨x, dx, ws, e, f _ _ hx, hn, dqAll_mono f _ _ hd⟩
  | scr ns =>
    obtain ⟨a, e, hs⟩ := h
    exact ⟨a, e, Same.seq f hs⟩
  | raw u => exact h
  | exc a d fs =>
    obtain ⟨e, ws, hx, hn, hd⟩ := h
    exact ⟨e, ws, f _ _ hx, hn, dqAll_mono f _ _ hd⟩
theorem Val.fr (h : Val K H w v r) (f : Fr w.α H H') : Val K H' w v r := h.same f.all
theorem Sl.same (h : Sl K H w σ ρ) (f : Same (dl H w.all) (dl H' w.all)) : Sl K H' w σ ρ := ⟨h.len, fun i r e => let ⟨v, a, b⟩ := h.at_ i r e; ⟨v, a, b.same f⟩⟩
theorem Sl.fr (h : Sl K H w σ ρ) (f : Fr w.α H H') : Sl K H' w σ ρ := h.same f.all
theorem Sl.set {i : Nat} (h : Sl K H w σ ρ) (hv : Val K H w v r) : Sl K H w (σ.set i (some v)) (ρ.set i (some r)) := by
  refine ⟨by simp [h.len], fun j q e => ?_⟩
  by_cases hj : i = j
  · subst hj
    rw [List.getElem?_set] at e
    rw [List.getElem?_set]
    by_cases hi : i < ρ.length
    · simp [hi] at e
      have hi' : i < σ.length := by rw [h.len]; exact hi
      subst e
      exact ⟨v, by simp [hi'], hv⟩
    · simp [hi] at e
  · rw [List.getElem?_set_ne hj] at e
    rw [List.getElem?_set_ne hj]
    exact h.at_ j q e
theorem Mem.there (m : Mem K H w μ) {b : Addr} (hb : b ∈ w.α) : ∃ vs, H b = some (.lst vs) := by
  obtain ⟨k, hk, e⟩ := List.mem_iff_getElem.mp hb
  have hk' : k < μ.length := by rw [← m.len]; exact hk
  obtain ⟨vs, h, _⟩ := m.cell k b μ[k] (by simp [hk, e]) (by simp [hk'])
  exact ⟨vs, h⟩
theorem Mem.fresh (m : Mem K H w μ) {p : Addr} (hp : H p = none) : p ∉ w.α := fun h => by
  obtain ⟨vs, e⟩ := m.there h
  rw [hp] at e; cases e
theorem Mem.same (m : Mem K H w μ) (f : Same H H') : Mem K H' w μ := by
  refine ⟨m.nd, m.len, fun k a xs h1 h2 => ?_, m.out, fun b hb => (m.ext b hb).elim fun o e => ⟨o, f _ _ e.1, e.2⟩, m.tab.ext f⟩
  obtain ⟨vs, h, d⟩ := m.cell k a xs h1 h2
  exact ⟨vs, f _ _ h, dqAll_mono (Fr.all (w := w) (Fr.of_same f)) _ _ d⟩
theorem Mem.freshA (m : Mem K H w μ) {p : Addr} (hp : H p = none) : p ∉ w.all := fun h => by
  rcases List.mem_append.mp h with h | h
  · exact m.fresh hp h
  · obtain ⟨o, e, _⟩ := m.ext p h
    rw [hp] at e; cases e
theorem Mem.freshN (m : Mem K H w μ) {p : Addr} (hp : Nw H p) : p ∉ w.all := fun h => by
  rcases List.mem_append.mp h with h | h
  · obtain ⟨vs, e⟩ := m.there h
    exact hp _ e (fun q z => by cases z)
  · obtain ⟨o, e, po⟩ := m.ext p h
    exact hp _ e po.1
theorem Mem.ex1 (m : Mem K H w μ) {b : Addr} (h : b ∈ w.ξ) : ∃ o, H b = some o := (m.ext b h).elim fun o e => ⟨o, e.1⟩
theorem Mem.new (m : Mem K H w μ) {p : Addr} {o : HO} (hp : H p = none) : Mem K (upd H p o) w μ := m.same (Same.new hp)
end
noncomputable abbrev wk' (w : Wd) (D : Addr) : Wd := ⟨w.α, D :: w.ξ⟩
theorem all_wk' {w : Wd} {D b : Addr} : b ∈ (wk' w D).all ↔ b = D ∨ b ∈ w.all := by
  simp only [Wd.all, List.mem_append, List.mem_cons]
  constructor
  · rintro (h | h | h)
    · exact .inr (.inl h)
    · exact .inl h
    · exact .inr (.inr h)
  · rintro (h | h | h)
    · exact .inr (.inl h)
    · exact .inl h
    · exact .inr (.inr h)
theorem keep_outN {K : PySem.W.Frag} {H H' : Hp} {w : Wd} {D : Addr} (hD : Nw H D) (f : Fr w.α H H') (hk : ∃ o, H' D = some o) : Same (dl H w.all) (dl H' (wk' w D).all) := fun b o hb => by
  have nt := dl_nt hb
  obtain ⟨n1, e1⟩ := dl_some hb
  exact dl_of (fun z => (all_wk'.mp z).elim (Nw.ne e1 nt hD) n1) (f b o e1 (fun z => n1 (List.mem_append_left _ z)) nt) nt
theorem keep_out {K : PySem.W.Frag} {H H' : Hp} {w : Wd} {D : Addr} (hD : H D = none) (f : Fr w.α H H') (hk : ∃ o, H' D = some o) : Same (dl H w.all) (dl H' (wk' w D).all) := fun b o hb => by
  have nt := dl_nt hb
  obtain ⟨n1, e1⟩ := dl_some hb
  have nb : b ≠ D := ne_of_none e1 hD
  exact dl_of (fun z => (all_wk'.mp z).elim nb n1) (f b o e1 (fun z => n1 (List.mem_append_left _ z)) nt) nt
theorem Mem.keep {K : PySem.W.Frag} {H : Hp} {w : Wd} {D : Addr} {o : HO} {μ : Sto} (m : Mem K H w μ) (hD : H D = none) (po : Pl o := by exact ⟨(fun q z => by cases z), (fun q z => by cases z)⟩) : Mem K (upd H D o) (wk' w D) μ := by
  have f : Fr w.α H (upd H D o) := Fr.of_same (Same.new hD)
  have g := keep_out (K := K) (H := H) (H' := upd H D o) (w := w) hD f ⟨o, upd_same⟩
  refine ⟨m.nd, m.len, fun k a xs h1 h2 => ?_, fun b hb => ?_, fun b hb => ?_, m.tab.ext (Same.new hD)⟩
  · obtain ⟨vs, e, hd⟩ := m.cell k a xs h1 h2
    exact ⟨vs, Same.new hD _ _ e, dqAll_mono g _ _ hd⟩
  · rcases List.mem_cons.mp hb with rfl | hb
    · exact m.fresh hD
    · exact m.out b hb
  · rcases List.mem_cons.mp hb with rfl | hb
    · exact ⟨o, upd_same, po⟩
    · obtain ⟨u, e, pu⟩ := m.ext b hb
      exact ⟨u, Same.new hD _ _ e, pu⟩
theorem Mem.outs {K : PySem.W.Frag} {H : Hp} {w : Wd} {D : Addr} {o : HO} {μ : Sto} (m : Mem K H (wk' w D) μ) (po : Pl o := by exact ⟨(fun q z => by cases z), (fun q z => by cases z)⟩) : Mem K (upd H D o) (wk' w D) μ := by
  have hDa : D ∉ w.α := m.out D List.mem_cons_self
  have g : Same (dl H (wk' w D).all) (dl (upd H D o) (wk' w D).all) := fun b u hb => by
    have nt := dl_nt hb
    obtain ⟨n1, e1⟩ := dl_some hb
    exact dl_of n1 (by rw [upd_ne fun z => n1 (all_wk'.mpr (.inl z))]; exact e1) nt
  refine ⟨m.nd, m.len, fun k a xs h1 h2 => ?_, m.out, fun b hb => ?_, tabs_upd m.tab fun u e => ?_⟩
  · obtain ⟨vs, e, hd⟩ := m.cell k a xs h1 h2
    refine ⟨vs, ?_, dqAll_mono g _ _ hd⟩
    have na : a ≠ D := fun z => hDa (by rw [← z]; exact List.mem_iff_getElem?.mpr ⟨k, h1⟩)
    rw [upd_ne na]
    exact e
  · by_cases hb' : b = D
    · rw [hb']
      exact ⟨o, upd_same, po⟩
    · obtain ⟨u, e, pu⟩ := m.ext b hb
      exact ⟨u, by rw [upd_ne hb']; exact e, pu⟩
  · obtain ⟨u', e', pu⟩ := m.ext D List.mem_cons_self
    rw [e] at e'
    cases e'
    exact pu
theorem same_outs {H : Hp} {w : Wd} {D : Addr} {o : HO} : Same (dl H (wk' w D).all) (dl (upd H D o) (wk' w D).all) := fun b u hb => by
  have nt := dl_nt hb
  obtain ⟨n1, e1⟩ := dl_some hb
  exact dl_of n1 (by rw [upd_ne fun z => n1 (all_wk'.mpr (.inl z))]; exact e1) nt
theorem Mem.unkeep {K : PySem.W.Frag} {H : Hp} {w : Wd} {D : Addr} {μ : Sto} (m : Mem K H (wk' w D) μ) : Mem K H w μ :=
  ⟨m.nd, m.len, fun k a xs h1 h2 => let ⟨vs, e, hd⟩ := m.cell k a xs h1 h2; ⟨vs, e, dqAll_mono (dl_sub fun b hb => all_wk'.mpr (.inr hb)) _ _ hd⟩, fun b hb => m.out b (List.mem_cons_of_mem _ hb), fun b hb => m.ext b (List.mem_cons_of_mem _ hb), m.tab⟩
section
variable (X : Cx)
noncomputable def EX (e : Expr) : TE := fun σ H Q => ∃ t, PE X e t ∧ t σ H Q
noncomputable def TX (e : Expr) : TT := fun σ H Q => ∃ t, PT X e t ∧ t σ H Q
noncomputable def AX (es : List Expr) : TA := fun σ H Q => ∃ t, PA X es t ∧ t σ H Q
noncomputable def GX (e : Expr) : TG := fun v σ H Q => ∃ t, PG X e t ∧ t v σ H Q
noncomputable def GsX (e : List Expr) : TGs := fun v σ H Q => ∃ t, PGs X e t ∧ t v σ H Q
noncomputable def IX (tg iter : Expr) : TI := fun σ H R => ∃ t, PI X tg iter t ∧ t σ H R
noncomputable def OX (e : Option Expr) : TO := fun σ H Q => ∃ t, PO X e t ∧ t σ H Q
noncomputable def SX (st : List Stmt) : TS := fun D σ H => ∃ t, PSs X st t ∧ t D σ H
end
section
variable {X : Cx}
theorem p_ex {e : Expr} : PE X e (EX X e) := ⟨fun pins s σ H Q I h => let ⟨_, p, q⟩ := h; p.run pins s σ H Q I q⟩
theorem p_tx {e : Expr} : PT X e (TX X e) := ⟨fun pins s σ H Q I h => let ⟨_, p, q⟩ := h; p.run pins s σ H Q I q⟩
theorem p_ax {e : List Expr} : PA X e (AX X e) := ⟨fun pos pins s σ H Q I h => let ⟨_, p, q⟩ := h; p.run pos pins s σ H Q I q⟩
theorem p_gx {e : Expr} : PG X e (GX X e) := ⟨fun pins s σ H v u Q I r h => let ⟨_, p, q⟩ := h; p.run pins s σ H v u Q I r q⟩
theorem p_gsx {e : List Expr} : PGs X e (GsX X e) := ⟨fun pins s σ H v u Q I r h => let ⟨_, p, q⟩ := h; p.run pins s σ H v u Q I r q⟩
theorem p_ix {tg e : Expr} : PI X tg e (IX X tg e) := ⟨fun pins s σ H Q I h => let ⟨_, p, q⟩ := h; p.run pins s σ H Q I q⟩
theorem p_ox {e : Option Expr} : PO X e (OX X e) := ⟨fun pins s σ H Q I h => let ⟨_, p, q⟩ := h; p.run pins s σ H Q I q⟩
theorem p_sx {e : List Stmt} : PSs X e (SX X e) := ⟨fun pins s σ H D I h => let ⟨_, p, q⟩ := h; p.run pins s σ H D I q⟩
end
section
variable (X : Cx)
noncomputable def EV (e : Expr) (ρ : REnv) (μ : Sto) (r : Ent) (μ' : Sto) : Prop :=
  ∀ w σ H, Mem X.K H w μ → Sl X.K H w σ ρ → ∀ Q : VK, (∀ v H', Mem X.K H' w μ' → Fr w.α H H' → Val X.K H' w v r → Q v H') → EX X e σ H Q
noncomputable def EVF (e : Expr) (ρ : REnv) (μ : Sto) (xs : List PyData) (μ' : Sto) : Prop :=
  ∀ w σ H, Mem X.K H w μ → Sl X.K H w σ ρ → ∀ Q : VK, (∀ p H' vs, Mem X.K H' (wk' w p) μ' → Fr w.α H H' → Nw H p → H' p = some (.lst vs) → DqAll (dl H' (wk' w p).all) vs xs → Q (.ref p) H') → EX X e σ H Q
noncomputable def TV (e : Expr) (ρ : REnv) (μ : Sto) (b : Bool) (μ' : Sto) : Prop :=
  ∀ w σ H, Mem X.K H w μ → Sl X.K H w σ ρ → ∀ Q : Bool → Hp → Prop, (∀ H', Mem X.K H' w μ' → Fr w.α H H' → Q b H') → TX X e σ H Q
theorem EV.obd {X : Cx} {e : Expr} {ρ : REnv} {μ μ1 : Sto} {C : Addr} {fs : List (Str × PyData)} (h : EV X e ρ μ (.obj C fs) μ1) : EV X e ρ μ (.dat (obD C fs)) μ1 := fun w σ H m s Q q => h w σ H m s Q fun v H' m' f hv => q v H' m' f (val_obD hv)
theorem EV.dob {X : Cx} {e : Expr} {ρ : REnv} {μ μ1 : Sto} {C : Addr} {fs : List (Str × PyData)} (h : EV X e ρ μ (.dat (obD C fs)) μ1) : EV X e ρ μ (.obj C fs) μ1 := fun w σ H m s Q q => h w σ H m s Q fun v H' m' f hv => q v H' m' f (val_obj hv)
noncomputable def Vas (K : PySem.W.Frag) (H : Hp) (w : Wd) (vs : List V) (rs : List Ent) : Prop := vs.length = rs.length ∧ ∀ (i : Nat) v r, vs[i]? = some v → rs[i]? = some r → Val K H w v r
noncomputable def AV (e : List Expr) (ρ : REnv) (μ : Sto) (rs : List Ent) (μ' : Sto) : Prop :=
  ∀ w σ H, Mem X.K H w μ → Sl X.K H w σ ρ → ∀ Q : List V → Hp → Prop, (∀ vs H', Mem X.K H' w μ' → Fr w.α H H' → Vas X.K H' w vs rs → Q vs H') → AX X e σ H Q
end
theorem Vas.nil {K : PySem.W.Frag} {H : Hp} {w : Wd} : Vas K H w [] [] := ⟨rfl, fun i v r a b => by simp at a⟩
theorem Vas.cons {K : PySem.W.Frag} {H : Hp} {w : Wd} {v : V} {vs : List V} {r : Ent} {rs : List Ent} (a : Val K H w v r) (h : Vas K H w vs rs) : Vas K H w (v :: vs) (r :: rs) := by
  refine ⟨by simp [h.1], fun i x y hx hy => ?_⟩
  cases i with
  | zero => simp at hx hy; subst hx; subst hy; exact a
  | succ i => simp at hx hy; exact h.2 i x y hx hy
theorem Vas.inv {K : PySem.W.Frag} {H : Hp} {w : Wd} {vs : List V} {r : Ent} {rs : List Ent} (h : Vas K H w vs (r :: rs)) : ∃ v us, vs = v :: us ∧ Val K H w v r ∧ Vas K H w us rs := by
  obtain ⟨hl, ha⟩ := h
  cases vs with
  | nil => simp at hl
  | cons v us =>
    refine ⟨v, us, rfl, ha 0 v r (by simp) (by simp), by simpa using hl, fun i x y hx hy => ha (i + 1) x y (by simpa using hx) (by simpa using hy)⟩
theorem Vas.inv0 {K : PySem.W.Frag} {H : Hp} {w : Wd} {vs : List V} (h : Vas K H w vs []) : vs = [] := by
  obtain ⟨hl, ha⟩ := h
  cases vs with
  | nil => rfl
  | cons v us => simp at hl
noncomputable abbrev Ii (i : Int) : Ent := .dat (.int i)
noncomputable abbrev Ss (s : Str) : Ent := .dat (.str s)
noncomputable abbrev Bb (b : Bool) : Ent := .dat (.bool b)
noncomputable abbrev Nn : Ent := .dat .none
noncomputable abbrev Ls (ds : List PyData) : Ent := .dat (.list ds)
noncomputable abbrev Tp (ds : List PyData) : Ent := .dat (.tuple ds)
noncomputable def R2V (K : PySem.W.Frag) (r : R2) (x y z : Ent) (μ : Sto) : Prop := ∀ w H v u, Mem K H w μ → Val K H w v x → Val K H w u y → ∀ Q : VK, (∀ t H', Mem K H' w μ → Fr w.α H H' → Val K H' w t z → Q t H') → r v u H Q
section
variable {X : Cx} {ρ : REnv} {μ μ1 μ2 μ3 : Sto} {x y z r : Ent} {a b c e : Expr} {pos p2 : Pos}
theorem EV.name {i : Nat} {n : Str} (hN : X.N[i]? = some n) (hv : Vis X.env.scope n) (h : ρ[i]? = some (some r)) (hd : (n == ("__debug__" : Str)) = false := by decide) (hcd : (n == ("__classdict__" : Str)) = false := by decide) : EV X (.Name n pos) ρ μ r μ := by
  intro w σ H m s Q q
  obtain ⟨v, e, hr⟩ := s.at_ i r h
  exact ⟨_, pe_var hN hv hd hcd, v, e, q v H m .refl hr⟩
theorem EV.int {i : Int} {j} : EV X (.Constant (.int i) j pos) ρ μ (Ii i) μ := fun w σ H m s Q q => ⟨_, pe_int, q _ _ m .refl (Dq.int i)⟩
theorem EV.str {i : Str} {j} : EV X (.Constant (.str i) j pos) ρ μ (Ss i) μ := fun w σ H m s Q q => ⟨_, pe_str, q _ _ m .refl (Dq.str i)⟩
theorem EV.bl {i : Bool} {j} : EV X (.Constant (.bool i) j pos) ρ μ (Bb i) μ := fun w σ H m s Q q => ⟨_, pe_bl, q _ _ m .refl (Dq.bl i)⟩
theorem EV.non {j} : EV X (.Constant .none j pos) ρ μ Nn μ := fun w σ H m s Q q => ⟨_, pe_non, q _ _ m .refl Dq.non⟩
theorem EV.eq {z' : Ent} (h : EV X e ρ μ z μ1) (q : z = z') : EV X e ρ μ z' μ1 := q ▸ h
theorem EV.op {op : Operator} {r : R2} (ho : OpR X (binaryOp op) r) (ha : EV X a ρ μ x μ1) (hb : EV X b ρ μ1 y μ2) (hr : R2V X.K r x y z μ2) : EV X (.BinOp a op b pos) ρ μ z μ2 := by
  intro w σ H m s Q q
  refine ⟨_, pe_op ho (p_ex (e := a)) (p_ex (e := b)), ?_⟩
  refine ha w σ H m s _ fun v H1 m1 f1 h1 => ?_
  refine hb w σ H1 m1 (s.fr f1) _ fun u H2 m2 f2 h2 => ?_
  exact hr w H2 v u m2 (h1.fr f2) h2 Q fun t H3 m3 f3 h3 => q t H3 m3 ((f1.trans f2).trans f3) h3
theorem EV.cmp {op : CmpOp} {r : R2} (ho : OpR X (compareOp op) r) (hm : behindInMarks op b = false) (ha : EV X a ρ μ x μ1) (hb : EV X b ρ μ1 y μ2) (hr : R2V X.K r x y z μ2) : EV X (.Compare a [op] [b] pos) ρ μ z μ2 := by
  intro w σ H m s Q q
  refine ⟨_, pe_cmpR ho (p_ex (e := a)) (p_ex (e := b)) hm, ?_⟩
  refine ha w σ H m s _ fun v H1 m1 f1 h1 => ?_
  refine hb w σ H1 m1 (s.fr f1) _ fun u H2 m2 f2 h2 => ?_
  exact hr w H2 v u m2 (h1.fr f2) h2 Q fun t H3 m3 f3 h3 => q t H3 m3 ((f1.trans f2).trans f3) h3
theorem TV.cmp {op : CmpOp} {r : R2} {k : Bool} (ho : OpR X (compareOp op) r) (hm : behindInMarks op b = false) (ha : EV X a ρ μ x μ1) (hb : EV X b ρ μ1 y μ2) (hr : R2V X.K r x y (Bb k) μ2) : TV X (.Compare a [op] [b] pos) ρ μ k μ2 := by
  intro w σ H m s Q q
  refine ⟨_, pt_cmpR ho (p_ex (e := a)) (p_ex (e := b)) hm, ?_⟩
  refine ha w σ H m s _ fun v H1 m1 f1 h1 => ?_
  refine hb w σ H1 m1 (s.fr f1) _ fun u H2 m2 f2 h2 => ?_
  refine hr w H2 v u m2 (h1.fr f2) h2 _ fun t H3 m3 f3 h3 => ?_
  cases h3
  exact ⟨k, rfl, q H3 m3 ((f1.trans f2).trans f3)⟩
theorem TV.val {k : Bool} (h : EV X e ρ μ (Bb k) μ1) (he : ∀ whole, isTrue e X.env whole = (do let v ← whole; standAt e.pos; holding [v] (truthy v)) := by intro _; rfl) : TV X e ρ μ k μ1 := by
  intro w σ H m s Q q
  refine ⟨_, pt_val (p_ex (e := e)) he, ?_⟩
  refine h w σ H m s _ fun v H1 m1 f1 h1 => ?_
  cases h1
  exact ⟨k, rfl, q H1 m1 f1⟩
theorem TV.not {k : Bool} (h : TV X a ρ μ k μ1) : TV X (.UnaryOp .Not a pos) ρ μ (!k) μ1 := by
  intro w σ H m s Q q
  refine ⟨_, pt_not (p_tx (e := a)), ?_⟩
  exact h w σ H m s _ fun H1 m1 f1 => q H1 m1 f1
theorem TV.eq {k k' : Bool} (h : TV X e ρ μ k μ1) (q : k = k') : TV X e ρ μ k' μ1 := q ▸ h
noncomputable def WV (X : Cx) (e : Expr) (ρ : REnv) (μ : Sto) (b : Bool) (μ' : Sto) : Prop :=
  ∀ w σ H, Mem X.K H w μ → Sl X.K H w σ ρ → ∀ Q : Bool → Hp → Prop, (∀ H', Mem X.K H' w μ' → Fr w.α H H' → Q b H') → ∃ t, PW X e t ∧ t σ H Q
theorem pw_any {e : Expr} : PW X e (fun σ H Q => ∃ t, PW X e t ∧ t σ H Q) := ⟨fun wh pins s σ H Q I h => let ⟨_, p, q⟩ := h; p.run wh pins s σ H Q I q⟩
theorem WV.tv {k : Bool} (h : WV X e ρ μ k μ1) : TV X e ρ μ k μ1 := fun w σ H m s Q q => let ⟨t, p, r⟩ := h w σ H m s Q q; ⟨t, p.pt, r⟩
theorem WV.and1 {k : Bool} (h : TV X a ρ μ k μ1) : WV X (.BoolOp .And [a] pos) ρ μ k μ1 := fun w σ H m s Q q => ⟨_, pw_and1 (p_tx (e := a)), h w σ H m s Q q⟩
theorem WV.or1 {k : Bool} (h : TV X a ρ μ k μ1) : WV X (.BoolOp .Or [a] pos) ρ μ k μ1 := fun w σ H m s Q q => ⟨_, pw_or1 (p_tx (e := a)), h w σ H m s Q q⟩
theorem WV.and {k l : Bool} {es : List Expr} (h : TV X a ρ μ k μ1) (h0 : k = false → μ2 = μ1 ∧ l = false) (h2 : k = true → WV X (.BoolOp .And (b :: es) pos) ρ μ1 l μ2) : WV X (.BoolOp .And (a :: b :: es) pos) ρ μ l μ2 := by
  intro w σ H m s Q q
  refine ⟨_, pw_and (p_tx (e := a)) (pw_any (e := .BoolOp .And (b :: es) pos)), ?_⟩
  refine h w σ H m s _ fun H1 m1 f1 => ?_
  cases k with
  | true =>
    refine iteT ?_
    exact h2 rfl w σ H1 m1 (s.fr f1) Q fun H2 m2 f2 => q H2 m2 (f1.trans f2)
  | false =>
    refine iteF ?_
    obtain ⟨rfl, rfl⟩ := h0 rfl
    exact q H1 m1 f1
theorem WV.or {k l : Bool} {es : List Expr} (h : TV X a ρ μ k μ1) (h0 : k = true → μ2 = μ1 ∧ l = true) (h2 : k = false → WV X (.BoolOp .Or (b :: es) pos) ρ μ1 l μ2) : WV X (.BoolOp .Or (a :: b :: es) pos) ρ μ l μ2 := by
  intro w σ H m s Q q
  refine ⟨_, pw_or (p_tx (e := a)) (pw_any (e := .BoolOp .Or (b :: es) pos)), ?_⟩
  refine h w σ H m s _ fun H1 m1 f1 => ?_
  cases k with
  | false =>
    refine iteF ?_
    exact h2 rfl w σ H1 m1 (s.fr f1) Q fun H2 m2 f2 => q H2 m2 (f1.trans f2)
  | true =>
    refine iteT ?_
    obtain ⟨rfl, rfl⟩ := h0 rfl
    exact q H1 m1 f1
theorem EV.one {op} (h : EV X a ρ μ x μ1) : EV X (.BoolOp op [a] pos) ρ μ x μ1 := fun w σ H m s Q q => ⟨_, pe_one (p_ex (e := a)), h w σ H m s Q q⟩
theorem EV.and {k : Bool} {es : List Expr} (h : EV X a ρ μ (Bb k) μ1) (h0 : k = false → μ2 = μ1 ∧ z = Bb false) (h2 : k = true → EV X (.BoolOp .And (b :: es) pos) ρ μ1 z μ2) : EV X (.BoolOp .And (a :: b :: es) pos) ρ μ z μ2 := by
  intro w σ H m s Q q
  refine ⟨_, pe_and (p_ex (e := a)) (p_ex (e := .BoolOp .And (b :: es) pos)), ?_⟩
  refine h w σ H m s _ fun v H1 m1 f1 h1 => ?_
  cases h1
  refine ⟨k, rfl, ?_⟩
  cases k with
  | true =>
    refine iteT ?_
    exact h2 rfl w σ H1 m1 (s.fr f1) Q fun v H2 m2 f2 => q v H2 m2 (f1.trans f2)
  | false =>
    refine iteF ?_
    obtain ⟨rfl, rfl⟩ := h0 rfl
    exact q _ H1 m1 f1 (Dq.bl false)
theorem EV.not {k : Bool} (h : EV X a ρ μ (Bb k) μ1) : EV X (.UnaryOp .Not a pos) ρ μ (Bb !k) μ1 := by
  intro w σ H m s Q q
  refine ⟨_, pe_not (p_ex (e := a)), ?_⟩
  refine h w σ H m s _ fun v H1 m1 f1 h1 => ?_
  cases h1
  exact ⟨k, rfl, q _ H1 m1 f1 (Dq.bl _)⟩
theorem EV.ifx {k : Bool} (hc : TV X c ρ μ k μ1) (h1 : k = true → EV X a ρ μ1 z μ2) (h2 : k = false → EV X b ρ μ1 z μ2) : EV X (.IfExp c a b pos) ρ μ z μ2 := by
  intro w σ H m s Q q
  refine ⟨_, pe_ifExp (p_tx (e := c)) (p_ex (e := a)) (p_ex (e := b)), ?_⟩
  refine hc w σ H m s _ fun H1 m1 f1 => ?_
  cases k with
  | true => exact iteT (h1 rfl w σ H1 m1 (s.fr f1) Q fun v H2 m2 f2 => q v H2 m2 (f1.trans f2))
  | false => exact iteF (h2 rfl w σ H1 m1 (s.fr f1) Q fun v H2 m2 f2 => q v H2 m2 (f1.trans f2))
theorem AV.nil : AV X [] ρ μ [] μ := fun w σ H m s Q q => ⟨_, pa_nil, q [] H m .refl .nil⟩
theorem AV.cons {es : List Expr} {rs : List Ent} (h : EV X e ρ μ x μ1) (hr : AV X es ρ μ1 rs μ2) (hs : starEach (e :: es) X.env = (false, eval e X.env) :: starEach es X.env := by rfl) : AV X (e :: es) ρ μ (x :: rs) μ2 := by
  intro w σ H m s Q q
  refine ⟨_, pa_cons (p_ex (e := e)) (p_ax (e := es)) hs, ?_⟩
  refine h w σ H m s _ fun v H1 m1 f1 h1 => ?_
  refine hr w σ H1 m1 (s.fr f1) _ fun vs H2 m2 f2 h2 => ?_
  exact q (v :: vs) H2 m2 (f1.trans f2) (.cons (h1.fr f2) h2)
end
noncomputable def dats (rs : List PyData) : List Ent := rs.map .dat
theorem Vas.dats {K : PySem.W.Frag} {H : Hp} {w : Wd} : ∀ {ds : List PyData} {vs : List V}, Vas K H w vs (dats ds) → DqAll (dl H w.all) vs ds
  | [], vs, h => by rw [Vas.inv0 h]; exact .nil
  | d :: ds, vs, h => by
    obtain ⟨v, us, rfl, h1, h2⟩ := Vas.inv h
    exact .cons h1 (Vas.dats h2)
section
variable {X : Cx} {ρ : REnv} {μ μ1 μ2 μ3 : Sto} {ds : List PyData} {es : List Expr} {pos : Pos} {K : PySem.W.Frag} {H : Hp} {w : Wd}
theorem dl_new {p : Addr} {o : HO} {S : List Addr} (hp : H p = none) : Same (dl H S) (dl (upd H p o) S) := (Fr.of_same (S := S) (Same.new hp)).sameDl fun _ h => h
theorem val_tup {p : Addr} {vs : List V} (m : Mem K H w μ) (hp : H p = none) (h : DqAll (dl H w.all) vs ds) : Val K (upd H p (.tup vs)) w (.ref p) (Tp ds) := by
  have hn : p ∉ w.all := m.freshA hp
  exact Dq.tup (dl_of hn upd_same) (dqAll_mono (dl_new hp) _ _ h)
theorem val_lst {p : Addr} {vs : List V} (m : Mem K H w μ) (hp : H p = none) (h : DqAll (dl H w.all) vs ds) : Val K (upd H p (.lst vs)) w (.ref p) (Ls ds) := by
  have hn : p ∉ w.all := m.freshA hp
  exact Dq.lst (dl_of hn upd_same) (dqAll_mono (dl_new hp) _ _ h)
end
end J
namespace J
open PySem PySem.Spec
open PyProof.Rows L2
section
variable {K : PySem.W.Frag} {μ : Sto} {i j : Int} {s t : Str} {ds es : List PyData} {d e : PyData} {b k : Bool}
theorem r2v_pure {r : R2} {x y z : Ent} (h : ∀ w H v u, Mem K H w μ → Val K H w v x → Val K H w u y → ∃ t, Val K H w t z ∧ ∀ Q : VK, Q t H → r v u H Q) : R2V K r x y z μ := fun w H v u m h1 h2 Q q => by
  obtain ⟨t, ht, hr⟩ := h w H v u m h1 h2
  exact hr Q (q t H m .refl ht)
theorem r2_I0 {g : Int → Int → V} {z : PyData} (hz : ∀ H, Dq H (g i j) z) : R2V K (rI0 g) (Ii i) (Ii j) (.dat z) μ := r2v_pure fun w H v u m h1 h2 => by
  cases h1
  cases h2
  exact ⟨g i j, hz _, fun Q q => ⟨i, j, rfl, rfl, q⟩⟩
theorem r2_I {C : Int → Int → Prop} {g : Int → Int → V} {z : PyData} (hc : C i j) (hz : ∀ H, Dq H (g i j) z) : R2V K (rI C g) (Ii i) (Ii j) (.dat z) μ := r2v_pure fun w H v u m h1 h2 => by
  cases h1
  cases h2
  exact ⟨g i j, hz _, fun Q q => ⟨i, j, rfl, rfl, hc, q⟩⟩
noncomputable def likeD : PyData → PyData → Bool
  | .bool _, .bool _ => true
  | .int _, .int _ => true
  | .str _, .str _ => true
  | _, _ => false
noncomputable def eqS : PyData → PyData → Bool
  | .bool a, .bool b => a == b
  | .int a, .int b => a == b
  | .str a, .str b => a == b
  | _, _ => false
theorem likeD_three {d e : PyData} (h : likeD d e = true) : (∃ a b, d = .bool a ∧ e = .bool b) ∨ (∃ a b, d = .int a ∧ e = .int b) ∨ ∃ a b, d = .str a ∧ e = .str b := by
  cases d with
  | bool a => cases e with
    | bool b => exact .inl ⟨a, b, rfl, rfl⟩
    | _ => cases h
  | int a => cases e with
    | int b => exact .inr (.inl ⟨a, b, rfl, rfl⟩)
    | _ => cases h
  | str a => cases e with
    | str b => exact .inr (.inr ⟨a, b, rfl, rfl⟩)
    | _ => cases h
  | _ => cases h
theorem dq_blI {H : Hp} {v : V} {a : Bool} (h : Dq H v (.bool a)) : v = .bl a := by
  cases h
  rfl
theorem dq_intI {H : Hp} {v : V} {a : Int} (h : Dq H v (.int a)) : v = .int a := by
  cases h
  rfl
theorem dq_strI {H : Hp} {v : V} {a : Str} (h : Dq H v (.str a)) : v = .str a := by
  cases h
  rfl
theorem r2_eq (h : likeD d e = true) : R2V K rEq (.dat d) (.dat e) (Bb (eqS d e)) μ := r2v_pure fun w H v u m h1 h2 => by
  rcases likeD_three h with ⟨a, b, rfl, rfl⟩ | ⟨a, b, rfl, rfl⟩ | ⟨a, b, rfl, rfl⟩
  · obtain rfl := dq_blI h1
    obtain rfl := dq_blI h2
    exact ⟨_, Dq.bl _, fun Q q => ⟨rfl, by rw [dec_bl]; exact q⟩⟩
  · obtain rfl := dq_intI h1
    obtain rfl := dq_intI h2
    exact ⟨_, Dq.bl _, fun Q q => ⟨rfl, by rw [dec_int]; exact q⟩⟩
  · obtain rfl := dq_strI h1
    obtain rfl := dq_strI h2
    exact ⟨_, Dq.bl _, fun Q q => ⟨rfl, by rw [dec_str]; exact q⟩⟩
theorem r2_ne (h : likeD d e = true) : R2V K rNe (.dat d) (.dat e) (Bb (!eqS d e)) μ := r2v_pure fun w H v u m h1 h2 => by
  rcases likeD_three h with ⟨a, b, rfl, rfl⟩ | ⟨a, b, rfl, rfl⟩ | ⟨a, b, rfl, rfl⟩
  · obtain rfl := dq_blI h1
    obtain rfl := dq_blI h2
    exact ⟨_, Dq.bl _, fun Q q => ⟨rfl, by rw [dec_bl]; exact q⟩⟩
  · obtain rfl := dq_intI h1
    obtain rfl := dq_intI h2
    exact ⟨_, Dq.bl _, fun Q q => ⟨rfl, by rw [dec_int]; exact q⟩⟩
  · obtain rfl := dq_strI h1
    obtain rfl := dq_strI h2
    exact ⟨_, Dq.bl _, fun Q q => ⟨rfl, by rw [dec_str]; exact q⟩⟩
theorem r2_eqD (h1 : SeqAt.shaped d = true) (h2 : SeqAt.shaped e = true) : R2V K (rEqD K) (.dat d) (.dat e) (Bb (PyData.eqv d e)) μ := r2v_pure fun w H v u m a b =>
  ⟨_, Dq.bl _, fun Q q => ⟨d, e, Dq.dp dl_same _ _ a (SeqAt.canLay_of_shaped h1), Dq.dp dl_same _ _ b (SeqAt.canLay_of_shaped h2), h1, h2, q⟩⟩
theorem r2_neD (h1 : SeqAt.shaped d = true) (h2 : SeqAt.shaped e = true) : R2V K (rNeD K) (.dat d) (.dat e) (Bb (!PyData.eqv d e)) μ := r2v_pure fun w H v u m a b =>
  ⟨_, Dq.bl _, fun Q q => ⟨d, e, Dq.dp dl_same _ _ a (SeqAt.canLay_of_shaped h1), Dq.dp dl_same _ _ b (SeqAt.canLay_of_shaped h2), h1, h2, q⟩⟩
noncomputable def isNone : PyData → Bool
  | .none => true
  | _ => false
theorem dq_isNone {H : Hp} {v : V} (h : Dq H v d) : decide (v = .non) = isNone d := by
  cases h <;> simp [isNone]
theorem r2_isN : R2V K (fun x y H Q => y = .non ∧ Q (.bl (decide (x = .non))) H) (.dat d) Nn (Bb (isNone d)) μ := r2v_pure fun w H v u m a b => by
  cases b
  exact ⟨_, Dq.bl _, fun Q q => ⟨rfl, by rw [dq_isNone a]; exact q⟩⟩
theorem r2_notN : R2V K (fun x y H Q => y = .non ∧ Q (.bl (!decide (x = .non))) H) (.dat d) Nn (Bb (!isNone d)) μ := r2v_pure fun w H v u m a b => by
  cases b
  exact ⟨_, Dq.bl _, fun Q q => ⟨rfl, by rw [dq_isNone a]; exact q⟩⟩
theorem r2_addS (h : s.length + t.length ≤ sizeLine) : R2V K (fun x y H Q => ∃ i j, x = V.str i ∧ y = V.str j ∧ i.length + j.length ≤ sizeLine ∧ Q (.str (i ++ j)) H) (Ss s) (Ss t) (Ss (s ++ t)) μ := r2v_pure fun w H v u m a b => by
  cases a
  cases b
  exact ⟨_, Dq.str _, fun Q q => ⟨s, t, rfl, rfl, h, q⟩⟩
theorem new_lst {H : Hp} {w : Wd} {vs : List V} {Q : VK} (m : Mem K H w μ) (h : DqAll (dl H w.all) vs ds) (q : ∀ v H', Mem K H' w μ → Fr w.α H H' → Val K H' w v (Ls ds) → Q v H') : ∀ p, H p = none → Q (.ref p) (upd H p (.lst vs)) := fun p hp =>
  q _ _ (m.new hp) (Fr.of_same (Same.new hp)) (val_lst m hp h)
theorem new_tup {H : Hp} {w : Wd} {vs : List V} {Q : VK} (m : Mem K H w μ) (h : DqAll (dl H w.all) vs ds) (q : ∀ v H', Mem K H' w μ → Fr w.α H H' → Val K H' w v (Tp ds) → Q v H') : ∀ p, H p = none → Q (.ref p) (upd H p (.tup vs)) := fun p hp =>
  q _ _ (m.new hp) (Fr.of_same (Same.new hp)) (val_tup m hp h)
theorem r2_cat (h : ds.length + es.length ≤ sizeLine) : R2V K rCat (Ls ds) (Ls es) (Ls (ds ++ es)) μ := fun w H v u m a b Q q => by
  cases a with
  | lst ha hd =>
    cases b with
    | lst hb he =>
      exact ⟨_, _, _, _, rfl, rfl, (dl_some ha).2, (dl_some hb).2, by rw [dqAll_len hd, dqAll_len he]; exact h, new_lst m (dqAll_append hd he) q⟩
theorem r2_catT (h : ds.length + es.length ≤ sizeLine) : R2V K (rCatA K) (Tp ds) (Tp es) (Tp (ds ++ es)) μ := fun w H v u m a b Q q => by
  have a' : Val K H w v (Tp ds) := a
  have b' : Val K H w u (Tp es) := b
  cases a with
  | tup ha hd =>
    cases b with
    | tup hb he =>
      refine ⟨_, _, _, _, rfl, rfl, SqT.of (dl_some ha).2, SqT.of (dl_some hb).2, by rw [dqAll_len hd, dqAll_len he]; exact h, fun z => ?_, fun _ z => ?_, fun _ _ => new_tup m (dqAll_append hd he) q⟩
      · subst z
        cases hd
        exact q _ _ m .refl b'
      · subst z
        cases he
        rw [List.append_nil] at q
        exact q _ _ m .refl a'
noncomputable def flatD : PyData → Bool
  | .none | .bool _ | .int _ | .str _ => true
  | _ => false
noncomputable def eqF : PyData → PyData → Bool
  | .none, .none => true
  | .bool a, .bool b => a == b
  | .bool a, .int b => (if a then 1 else 0) == b
  | .int a, .bool b => a == (if b then 1 else 0)
  | .int a, .int b => a == b
  | .str a, .str b => a == b
  | _, _ => false
noncomputable def inD (x : PyData) (xs : List PyData) : Bool := xs.any fun y => eqF y x
theorem dq_flat {H : Hp} {v : V} (h : Dq H v d) : flatV v = flatD d := by cases h <;> rfl
theorem dq_eqF {H : Hp} {v u : V} (h : Dq H v d) (g : Dq H u e) : eqV v u = eqF d e := by cases h <;> cases g <;> rfl
theorem dq_allFlat {H : Hp} : ∀ {vs : List V} {ds : List PyData}, DqAll H vs ds → vs.all flatV = ds.all flatD
  | [], _, h => by cases h; rfl
  | v :: vs, _, h => by
    cases h with
    | cons h1 h2 => rw [List.all_cons, List.all_cons, dq_flat h1, dq_allFlat h2]
theorem dq_inD {H : Hp} {v : V} (h : Dq H v d) : ∀ {vs : List V} {ds : List PyData}, DqAll H vs ds → inV v vs = inD d ds
  | [], _, g => by cases g; rfl
  | u :: vs, _, g => by
    cases g with
    | cons g1 g2 =>
      have := dq_inD h g2
      unfold inV inD at *
      rw [List.any_cons, List.any_cons, this, dq_eqF g1 h]
theorem r2_inL {neg : Bool} (h1 : flatD d = true) (h2 : ds.all flatD = true) : R2V K (rIn K neg) (.dat d) (Ls ds) (Bb (if neg then !inD d ds else inD d ds)) μ := r2v_pure fun w H v u m a b => by
  cases b with
  | lst hb hd => exact ⟨_, Dq.bl _, fun Q q => ⟨_, _, rfl, .inl (SqL.of (dl_some hb).2), by rw [dq_flat a, h1], by rw [dq_allFlat hd, h2], by rw [dq_inD a hd]; exact q⟩⟩
theorem r2_inT {neg : Bool} (h1 : flatD d = true) (h2 : ds.all flatD = true) : R2V K (rIn K neg) (.dat d) (Tp ds) (Bb (if neg then !inD d ds else inD d ds)) μ := r2v_pure fun w H v u m a b => by
  cases b with
  | tup hb hd => exact ⟨_, Dq.bl _, fun Q q => ⟨_, _, rfl, .inr (SqT.of (dl_some hb).2), by rw [dq_flat a, h1], by rw [dq_allFlat hd, h2], by rw [dq_inD a hd]; exact q⟩⟩
theorem r2_inC {neg : Bool} {n : Nat} (hn : μ[n]? = some ds) (h1 : flatD d = true) (h2 : ds.all flatD = true) : R2V K (rIn K neg) (.dat d) (.ptr n) (Bb (if neg then !inD d ds else inD d ds)) μ := r2v_pure fun w H v u m a b => by
  obtain ⟨p, hp, rfl⟩ := b
  obtain ⟨vs, hb, hd⟩ := m.cell n p ds hp hn
  exact ⟨_, Dq.bl _, fun Q q => ⟨_, _, rfl, .inl (SqL.of hb), by rw [dq_flat a, h1], by rw [dq_allFlat hd, h2], by rw [dq_inD a hd]; exact q⟩⟩
theorem dq_at {H : Hp} {vs : List V} {ds : List PyData} (h : DqAll H vs ds) {i : Int} {d : PyData} (e : atI ds i = some d) : ∃ v, atI vs i = some v ∧ Dq H v d := by
  unfold atI at *
  rw [dqAll_len h]
  cases q : ixN ds.length i with
  | none => rw [q] at e; cases e
  | some j =>
    rw [q] at e
    exact dqAll_get h e
theorem r2_ixT (h : atI ds i = some d) : R2V K (rIxT K) (Tp ds) (Ii i) (.dat d) μ := r2v_pure fun w H v u m a b => by
  cases a with
  | tup ha hd =>
    cases b
    obtain ⟨x, hx, dx⟩ := dq_at hd h
    exact ⟨x, dx, fun Q q => ⟨_, _, i, x, rfl, rfl, SqT.of (dl_some ha).2, hx, q⟩⟩
theorem r2_ixL (h : atI ds i = some d) : R2V K (rIxL K) (Ls ds) (Ii i) (.dat d) μ := r2v_pure fun w H v u m a b => by
  cases a with
  | lst ha hd =>
    cases b
    obtain ⟨x, hx, dx⟩ := dq_at hd h
    exact ⟨x, dx, fun Q q => ⟨_, _, i, x, rfl, rfl, SqL.of (dl_some ha).2, hx, q⟩⟩
theorem r2_ixC {n : Nat} (hn : μ[n]? = some ds) (h : atI ds i = some d) : R2V K (rIxL K) (.ptr n) (Ii i) (.dat d) μ := r2v_pure fun w H v u m a b => by
  obtain ⟨p, hp, rfl⟩ := a
  cases b
  obtain ⟨vs, hb, hd⟩ := m.cell n p ds hp hn
  obtain ⟨x, hx, dx⟩ := dq_at hd h
  exact ⟨x, dx, fun Q q => ⟨_, _, i, x, rfl, rfl, SqL.of hb, hx, q⟩⟩
theorem r2_ixS {c : Nat} (hl : s.length ≤ sizeLine) (h : atI s.cps.toList i = some c) : R2V K rIxS (Ss s) (Ii i) (Ss ⟨#[c]⟩) μ := r2v_pure fun w H v u m a b => by
  cases a
  cases b
  exact ⟨_, Dq.str _, fun Q q => ⟨s, i, c, rfl, rfl, hl, h, q⟩⟩
theorem r2_inSign {c : Nat} : R2V K (fun x y H Q => ∃ (c : Nat) (z : Str), x = V.str ⟨#[c]⟩ ∧ y = V.str z ∧ Q (.bl (decide (c ∈ z.cps.toList))) H) (Ss ⟨#[c]⟩) (Ss t) (Bb (decide (c ∈ t.cps.toList))) μ := r2v_pure fun w H v u m a b => by
  cases a
  cases b
  exact ⟨_, Dq.bl _, fun Q q => ⟨c, t, rfl, rfl, q⟩⟩
end
section
variable {X : Cx} {ρ : REnv} {μ μ1 μ2 μ3 : Sto} {x y z r : Ent} {a b c e : Expr} {es : List Expr} {pos p2 p : Pos} {rs : List Ent} {ds : List PyData} {d : PyData} {i j : Int} {s t n : Str}
theorem EV.ix {q : R2} (hr : IxR X q) (ha : EV X a ρ μ x μ1) (hb : EV X b ρ μ1 y μ2) (h : R2V X.K q x y z μ2) (hs : PlainIx b := by exact fun _ _ => rfl) : EV X (.Subscript a b pos) ρ μ z μ2 := by
  intro w σ H m s Q q
  refine ⟨_, pe_ix hr (p_ex (e := a)) (p_ex (e := b)) hs, ?_⟩
  refine ha w σ H m s _ fun v H1 m1 f1 h1 => ?_
  refine hb w σ H1 m1 (s.fr f1) _ fun u H2 m2 f2 h2 => ?_
  exact h w H2 v u m2 (h1.fr f2) h2 Q fun t H3 m3 f3 h3 => q t H3 m3 ((f1.trans f2).trans f3) h3
theorem EV.tup {k} (ha : AV X es ρ μ (dats ds) μ1) (hl : ds.length ≤ 1000 := by exact Nat.le_of_ble_eq_true rfl) : EV X (.Tuple es k pos) ρ μ (Tp ds) μ1 := by
  intro w σ H m s Q q
  refine ⟨_, pe_tup (p_ax (e := es)), ?_⟩
  refine ha w σ H m s _ fun vs H1 m1 f1 h1 => ?_
  have hd := h1.dats
  exact ⟨by rw [dqAll_len hd]; exact Nat.le_of_lt (small1000 hl), new_tup m1 hd fun v H2 m2 f2 h2 => q v H2 m2 (f1.trans f2) h2⟩
theorem EV.lst (ha : AV X es ρ μ (dats ds) μ1) (hl : ds.length ≤ 1000 := by exact Nat.le_of_ble_eq_true rfl) : EV X (.List es pos) ρ μ (Ls ds) μ1 := by
  intro w σ H m s Q q
  refine ⟨_, pe_lst (p_ax (e := es)), ?_⟩
  refine ha w σ H m s _ fun vs H1 m1 f1 h1 => ?_
  have hd := h1.dats
  exact ⟨by rw [dqAll_len hd]; exact Nat.le_of_lt (small1000 hl), new_lst m1 hd fun v H2 m2 f2 h2 => q v H2 m2 (f1.trans f2) h2⟩
theorem EVF.lst (ha : AV X es ρ μ (dats ds) μ1) (hl : ds.length ≤ 1000 := by exact Nat.le_of_ble_eq_true rfl) : EVF X (.List es pos) ρ μ ds μ1 := by
  intro w σ H m s Q q
  refine ⟨_, pe_lst (p_ax (e := es)), ?_⟩
  refine ha w σ H m s _ fun vs H1 m1 f1 h1 => ?_
  have hd := h1.dats
  refine ⟨by rw [dqAll_len hd]; exact Nat.le_of_lt (small1000 hl), fun p hp => ?_⟩
  have hp0 : Nw H p := Nw.back f1 (Nw.of hp) (m1.fresh hp)
  exact q p _ vs (m1.keep hp) (f1.trans (Fr.of_same (Same.new hp))) hp0 upd_same (dqAll_mono (keep_out (K := X.K) hp (Fr.of_same (Same.new hp)) ⟨_, upd_same⟩) _ _ hd)
noncomputable def SpV (K : PySem.W.Frag) (ps : List Str) (C : List Ent → Sto → Ent → Sto → Prop) : Sp := fun vs H Q _ =>
  ∃ w μ rs r μ', Mem K H w μ ∧ Vas K H w vs rs ∧ rs.length = ps.length ∧ C rs μ r μ' ∧ ∀ v H', Mem K H' w μ' → Fr w.α H H' → Val K H' w v r → Q v H'
structure Cal (P : Program) (w : World) (K : PySem.W.Frag) (mg : Str → Option Value) (base : Heap) (n : Str) (k : Nat) (ps : List Str) (C : List Ent → Sto → Ent → Sto → Prop) : Prop where
  ex : ∃ f fd, FnOk P w K mg base CX0 k f fd ps (SpV K ps C) ∧ mg n = some (.ref f) ∧ PySem.W.keepIn K (.ref f) = true ∧ Binds K fd ps []
theorem EV.call {k : Nat} {ps : List Str} {C : List Ent → Sto → Ent → Sto → Prop} (F : Cal X.prog X.w X.K X.mg X.base n k ps C) (hr : Room k X.A) (ha : AV X (e :: es) ρ μ rs μ1) (hC : C rs μ1 r μ2) (hl : rs.length = ps.length := by rfl)
    (hg : Gl X n := by rfl) (hdb : (n == ("__debug__" : Str)) = false := by decide) (he : starEach (e :: es) X.env = (false, eval e X.env) :: starEach es X.env := by rfl) (hpl : (backTo pos (starEach es X.env)).any (·.1) = false := by rfl) :
    EV X (.Call (.Name n p) (e :: es) [] pos) ρ μ r μ2 := by
  intro w σ H m s Q q
  obtain ⟨f, fd, G, hm, hk, hb⟩ := F.ex
  refine ⟨_, pe_call (E := E0) G hr hg hm hk hb .nil pass0 (p_ax (e := e :: es)) hdb he hpl, ?_⟩
  refine ha w σ H m s _ fun vs H1 m1 f1 h1 => ?_
  refine ⟨w, μ1, rs, r, μ2, m1, by rw [List.append_nil]; exact h1, hl, hC, fun v H' m2 f2 h2 => q v H' m2 (f1.trans f2) h2⟩
noncomputable def CallV (K : PySem.W.Frag) (r : List V → Hp → VK → Prop) (rs : List Ent) (z : Ent) (μ : Sto) : Prop := ∀ w H vs, Mem K H w μ → Vas K H w vs rs → ∀ Q : VK, (∀ t H', Mem K H' w μ → Fr w.α H H' → Val K H' w t z → Q t H') → r vs H Q
theorem EV.callB {id : String} {q : List V → Hp → VK → Prop} (hc : CallR X (.builtin id) q) (hm : X.mg n = none) (hv : bootBuiltins n = some (.builtin id)) (ha : AV X (e :: es) ρ μ rs μ1) (h : CallV X.K q rs z μ1)
    (hg : Gl X n := by rfl) (hn : n ≠ "__name__" := by decide) (hdb : (n == ("__debug__" : Str)) = false := by decide) (he : starEach (e :: es) X.env = (false, eval e X.env) :: starEach es X.env := by rfl) (hpl : (backTo pos (starEach es X.env)).any (·.1) = false := by rfl) :
    EV X (.Call (.Name n p) (e :: es) [] pos) ρ μ z μ1 := by
  intro w σ H m s Q q
  refine ⟨_, pe_callB hc hg hm hv (p_ax (e := e :: es)) hn hdb he hpl, ?_⟩
  refine ha w σ H m s _ fun vs H1 m1 f1 h1 => ?_
  exact h w H1 vs m1 h1 Q fun t H' m2 f2 h2 => q t H' m2 (f1.trans f2) h2
theorem EV.callTy {id : String} {q : List V → Hp → VK → Prop} (hc : CallR X (.type id) q) (hm : X.mg n = none) (hv : bootBuiltins n = some (.type id)) (ha : AV X (e :: es) ρ μ rs μ1) (h : CallV X.K q rs z μ1)
    (hg : Gl X n := by rfl) (hn : n ≠ "__name__" := by decide) (hdb : (n == ("__debug__" : Str)) = false := by decide) (he : starEach (e :: es) X.env = (false, eval e X.env) :: starEach es X.env := by rfl) (hpl : (backTo pos (starEach es X.env)).any (·.1) = false := by rfl) :
    EV X (.Call (.Name n p) (e :: es) [] pos) ρ μ z μ1 := by
  intro w σ H m s Q q
  refine ⟨_, pe_callTy hc hg hm hv (p_ax (e := e :: es)) hn hdb he hpl, ?_⟩
  refine ha w σ H m s _ fun vs H1 m1 f1 h1 => ?_
  exact h w H1 vs m1 h1 Q fun t H' m2 f2 h2 => q t H' m2 (f1.trans f2) h2
end
section
variable {K : PySem.W.Frag} {μ : Sto} {i j : Int} {s t : Str} {ds es : List PyData} {d e : PyData} {b k : Bool} {x z : Ent}
theorem call1 {r : List V → Hp → VK → Prop} (h : ∀ w H v, Mem K H w μ → Val K H w v x → ∀ Q : VK, (∀ t H', Mem K H' w μ → Fr w.α H H' → Val K H' w t z → Q t H') → r [v] H Q) : CallV K r [x] z μ := fun w H vs m hv Q q => by
  obtain ⟨v, us, rfl, h1, h2⟩ := hv.inv
  rw [h2.inv0]
  exact h w H v m h1 Q q
theorem call2 {r : List V → Hp → VK → Prop} {y : Ent} (h : ∀ w H v u, Mem K H w μ → Val K H w v x → Val K H w u y → ∀ Q : VK, (∀ t H', Mem K H' w μ → Fr w.α H H' → Val K H' w t z → Q t H') → r [v, u] H Q) : CallV K r [x, y] z μ := fun w H vs m hv Q q => by
  obtain ⟨v, us, rfl, h1, h2⟩ := hv.inv
  obtain ⟨u, us, rfl, h3, h4⟩ := h2.inv
  rw [h4.inv0]
  exact h w H v u m h1 h3 Q q
theorem cv_lenS (h : s.length ≤ sizeLine) : CallV K (fun xs H Q => ∃ z, xs = [V.str z] ∧ z.length ≤ sizeLine ∧ Q (.int z.length) H) [Ss s] (Ii s.length) μ := call1 fun w H v m a Q q => by
  cases a
  exact ⟨s, rfl, h, q _ _ m .refl (Dq.int _)⟩
theorem cv_lenL : CallV K (fun xs H Q => ∃ p ys, xs = [V.ref p] ∧ (SqL K H p ys ∨ SqT K H p ys) ∧ Q (.int ys.length) H) [Ls ds] (Ii ds.length) μ := call1 fun w H v m a Q q => by
  cases a with
  | lst ha hd => exact ⟨_, _, rfl, .inl (SqL.of (dl_some ha).2), by rw [dqAll_len hd]; exact q _ _ m .refl (Dq.int _)⟩
theorem cv_lenT : CallV K (fun xs H Q => ∃ p ys, xs = [V.ref p] ∧ (SqL K H p ys ∨ SqT K H p ys) ∧ Q (.int ys.length) H) [Tp ds] (Ii ds.length) μ := call1 fun w H v m a Q q => by
  cases a with
  | tup ha hd => exact ⟨_, _, rfl, .inr (SqT.of (dl_some ha).2), by rw [dqAll_len hd]; exact q _ _ m .refl (Dq.int _)⟩
theorem cv_lenC {n : Nat} (hn : μ[n]? = some ds) : CallV K (fun xs H Q => ∃ p ys, xs = [V.ref p] ∧ (SqL K H p ys ∨ SqT K H p ys) ∧ Q (.int ys.length) H) [.ptr n] (Ii ds.length) μ := call1 fun w H v m a Q q => by
  obtain ⟨p, hp, rfl⟩ := a
  obtain ⟨vs, hb, hd⟩ := m.cell n p ds hp hn
  exact ⟨_, _, rfl, .inl (SqL.of hb), by rw [dqAll_len hd]; exact q _ _ m .refl (Dq.int _)⟩
theorem cv_lenScr {ns : List Int} : CallV K (fun xs H Q => ∃ p ys, xs = [V.ref p] ∧ (SqL K H p ys ∨ SqT K H p ys) ∧ Q (.int ys.length) H) [.scr ns] (Ii ns.length) μ := call1 fun w H v m a Q q => by
  obtain ⟨p, rfl, hs⟩ := a
  exact ⟨_, _, rfl, .inl (Same.seq dl_same hs), by rw [List.length_map]; exact q _ _ m .refl (Dq.int _)⟩
theorem cv_str (h : i.natAbs.log2 < 1920) : CallV K (fun xs H Q => ∃ i, xs = [V.int i] ∧ i.natAbs.log2 < 1920 ∧ Q (.str (toString i)) H) [Ii i] (Ss (toString i : String)) μ := call1 fun w H v m a Q q => by
  cases a
  exact ⟨i, rfl, h, q _ _ m .refl (Dq.str _)⟩
theorem cv_int1 : CallV K (fun xs H Q => (∃ i, xs = [V.int i] ∧ Q (.int i) H) ∨ ∃ k, xs = [.bl k] ∧ Q (.int (if k then 1 else 0)) H) [Ii i] (Ii i) μ := call1 fun w H v m a Q q => by
  cases a
  exact .inl ⟨i, rfl, q _ _ m .refl (Dq.int _)⟩
theorem cv_intS (h : PySem.intText? s = some i) (hl : s.length ≤ 640) : CallV K (fun xs H Q => ∃ a n, xs = [V.str a] ∧ PySem.intText? a = some n ∧ a.length ≤ 640 ∧ Q (.int n) H) [Ss s] (Ii i) μ := call1 fun w H v m a Q q => by
  cases a
  exact ⟨s, i, rfl, h, hl, q _ _ m .refl (Dq.int _)⟩
theorem cv_abs : CallV K (fun xs H Q => ∃ i, xs = [V.int i] ∧ Q (.int (if i < 0 then -i else i)) H) [Ii i] (Ii (if i < 0 then -i else i)) μ := call1 fun w H v m a Q q => by
  cases a
  exact ⟨i, rfl, q _ _ m .refl (Dq.int _)⟩
theorem cv_max : CallV K (fun xs H Q => ∃ i j, xs = [V.int i, .int j] ∧ Q (.int (if j > i then j else i)) H) [Ii i, Ii j] (Ii (if j > i then j else i)) μ := call2 fun w H v u m a b Q q => by
  cases a
  cases b
  exact ⟨i, j, rfl, q _ _ m .refl (Dq.int _)⟩
theorem cv_min : CallV K (fun xs H Q => ∃ i j, xs = [V.int i, .int j] ∧ Q (.int (if j < i then j else i)) H) [Ii i, Ii j] (Ii (if j < i then j else i)) μ := call2 fun w H v u m a b Q q => by
  cases a
  cases b
  exact ⟨i, j, rfl, q _ _ m .refl (Dq.int _)⟩
theorem cv_divmod (h : CDiv i j) : CallV K (fun xs H Q => ∃ i j, xs = [V.int i, .int j] ∧ CDiv i j ∧ ∀ p, H p = none → Q (.ref p) (upd H p (.tup [.int (i / j), .int (i % j)]))) [Ii i, Ii j] (Tp [.int (i / j), .int (i % j)]) μ := call2 fun w H v u m a b Q q => by
  cases a
  cases b
  exact ⟨i, j, rfl, h, new_tup m (.cons (.int _) (.cons (.int _) .nil)) q⟩
theorem dq_bools : ∀ {bs : List Bool} {H : Hp} {vs : List V}, DqAll H vs (bs.map PyData.bool) → vs = bs.map V.bl
  | [], H, _, h => by cases h; rfl
  | y :: ys, H, _, h => by
    cases h with
    | cons h1 h2 => cases h1; rw [dq_bools h2]; rfl
theorem cv_all {bs : List Bool} : CallV K (rAll K) [Ls (bs.map PyData.bool)] (Bb (bs.all id)) μ := call1 fun w H v m a Q q => by
  cases a with
  | lst ha hd =>
    rw [dq_bools hd] at ha
    exact ⟨_, bs, rfl, SqL.of (dl_some ha).2, q _ _ m .refl (Dq.bl _)⟩
theorem cv_any {bs : List Bool} : CallV K (rAny K) [Ls (bs.map PyData.bool)] (Bb (bs.any id)) μ := call1 fun w H v m a Q q => by
  cases a with
  | lst ha hd =>
    rw [dq_bools hd] at ha
    exact ⟨_, bs, rfl, SqL.of (dl_some ha).2, q _ _ m .refl (Dq.bl _)⟩
theorem cv_tupL : CallV K (fun xs H Q => ∃ p ys, xs = [V.ref p] ∧ ((SqL K H p ys ∧ ∀ l, H l = none → Q (.ref l) (upd H l (.tup ys))) ∨ (SqT K H p ys ∧ Q (.ref p) H))) [Ls ds] (Tp ds) μ := call1 fun w H v m a Q q => by
  cases a with
  | lst ha hd => exact ⟨_, _, rfl, .inl ⟨SqL.of (dl_some ha).2, new_tup m hd q⟩⟩
theorem cv_lstT : CallV K (fun xs H Q => ∃ p ys, xs = [V.ref p] ∧ (SqL K H p ys ∨ SqT K H p ys) ∧ ∀ l, H l = none → Q (.ref l) (upd H l (.lst ys))) [Tp ds] (Ls ds) μ := call1 fun w H v m a Q q => by
  cases a with
  | tup ha hd => exact ⟨_, _, rfl, .inr (SqT.of (dl_some ha).2), new_lst m hd q⟩
noncomputable def tyD : PyData → String
  | .none => "NoneType"
  | .bool _ => "bool"
  | .int _ => "int"
  | .str _ => "str"
  | .list _ => "list"
  | .tuple _ => "tuple"
  | .dict _ => "dict"
noncomputable def isObj : PyData → Bool
  | .dict ((.none, _) :: _) => true
  | _ => false
mutual
noncomputable def nob : PyData → Bool
  | .list xs => nobAll xs
  | .tuple xs => nobAll xs
  | .dict kvs => !isObj (.dict kvs)
  | _ => true
noncomputable def nobAll : List PyData → Bool
  | [] => true
  | x :: xs => nob x && nobAll xs
end
theorem nobAll_mem : ∀ {xs : List PyData}, nobAll xs = true → ∀ x ∈ xs, nob x = true
  | [], _, x, h => by simp at h
  | y :: ys, h, x, hx => by
    simp only [nobAll, Bool.and_eq_true] at h
    rcases List.mem_cons.mp hx with rfl | hx
    · exact h.1
    · exact nobAll_mem h.2 x hx
theorem nobAll_of : ∀ {xs : List PyData}, (∀ x ∈ xs, nob x = true) → nobAll xs = true
  | [], _ => rfl
  | y :: ys, h => by
    simp only [nobAll, Bool.and_eq_true]
    exact ⟨h y List.mem_cons_self, nobAll_of fun x hx => h x (List.mem_cons_of_mem _ hx)⟩
theorem nob_isObj {d : PyData} (h : nob d = true) : isObj d = false := by
  cases d with
  | dict kvs => simpa [nob] using h
  | _ => rfl
theorem nob_tup {xs : List PyData} (h : nob (.tuple xs) = true) : ∀ x ∈ xs, nob x = true := nobAll_mem (by simpa only [nob] using h)
theorem dq_ty {H H' : Hp} {v : V} (h : Dq H v d) (e : Same H H') (ho : isObj d = false) : TyX K H' v (.type (tyD d)) := by
  cases h with
  | ins hx hn hd => cases ho
  | dic ha hn hd => exact .base (.dK (e _ _ ha))
  | non => exact .base .non
  | bl b => exact .base (.bl b)
  | int i => exact .base (.int i)
  | str x => exact .base (.str x)
  | lst ha hd => exact .base (.lst (e _ _ ha))
  | tup ha hd => exact .base (.tup (e _ _ ha))
end
section
variable {X : Cx} {ρ : REnv} {μ μ1 μ2 μ3 : Sto} {x y z r : Ent} {a b c e : Expr} {es : List Expr} {pos p2 p p3 : Pos} {rs : List Ent} {ds : List PyData} {d : PyData} {i j : Int} {s t n : Str}
theorem EV.isi {T : String} {k : Bool} (ha : EV X a ρ μ (.dat d) μ1) (hob : isObj d = false) (hk : kitB (tyD d) T = some k) (hm : X.mg "isinstance" = none) (hmT : X.mg n = none) (hvT : bootBuiltins n = some (.type T)) (hg : Gl X "isinstance" := by rfl) (hgT : Gl X n := by rfl) (hn : n ≠ "__name__" := by decide)
    (hdb : (n == ("__debug__" : Str)) = false := by decide)
    (he : starEach [a, .Name n p2] X.env = (false, eval a X.env) :: starEach [.Name n p2] X.env := by rfl) (he2 : starEach [.Name n p2] X.env = (false, eval (.Name n p2) X.env) :: starEach [] X.env := by rfl) (hpl : (backTo pos (starEach [.Name n p2] X.env)).any (·.1) = false := by rfl) :
    EV X (.Call (.Name "isinstance" p) [a, .Name n p2] [] pos) ρ μ (Bb k) μ1 := by
  intro w σ H m s Q q
  refine ⟨_, pe_callB call_isi hg hm (by decide +kernel) (pa_cons (p_ex (e := a)) (pa_cons (pe_bltn (v := .ty T) hgT hmT hvT rfl hn hdb) pa_nil he2) he) (by decide) (by decide) he hpl, ?_⟩
  refine ha w σ H m s _ fun v H1 m1 f1 h1 => ?_
  exact ⟨v, .ty T, _, .type T, k, rfl, .ty T, dq_ty h1 dl_same hob, kit_ty hk, q _ _ m1 f1 (Dq.bl k)⟩
end
end J
namespace J
open PySem PySem.Spec
open PyProof.Rows L2
structure Wk (J : It) (G : Hp) (ds : List PyData) : Prop where
  go : ∀ H2, Same G H2 → ∀ (i : Nat) (d : PyData), ds[i]? = some d → J.go i H2 ∧ ∀ x H3, J.yld i H2 x H3 → Same H2 H3 ∧ ∀ T : List Addr, Same G (dl H2 T) → (∀ b ∈ T, ∃ o, H2 b = some o) → Dq (dl H3 T) x d
  stop : ∀ H2, Same G H2 → J.stop ds.length H2
noncomputable def IV (X : Cx) (tg e : Expr) (ρ : REnv) (μ : Sto) (ds : List PyData) (μ' : Sto) : Prop :=
  ∀ w σ H, Mem X.K H w μ → Sl X.K H w σ ρ → ∀ R : It → Hp → Prop, (∀ J H', Mem X.K H' w μ' → Fr w.α H H' → Wk J (dl H' w.all) ds → R J H') → IX X tg e σ H R
section
variable {X : Cx} {ρ : REnv} {μ μ1 μ2 μ3 : Sto} {tg a b e : Expr} {ds : List PyData} {i j : Int} {s : Str} {pos p : Pos}
theorem wk_lst {K : PySem.W.Frag} {G : Hp} {c : Addr} {vs : List V} (h : G c = some (.lst vs)) (hd : DqAll G vs ds) : Wk (Itl K c) G ds := by
  refine ⟨fun H2 s i d e => ?_, fun H2 s => ⟨vs, SqL.of (s _ _ h), Nat.le_of_eq (dqAll_len hd)⟩⟩
  obtain ⟨v, hv, dv⟩ := dqAll_get hd e
  refine ⟨⟨vs, v, SqL.of (s _ _ h), hv⟩, fun x H3 y => ?_⟩
  obtain ⟨rfl, y⟩ := y
  have := y vs (SqL.of (s _ _ h))
  rw [hv] at this
  cases this
  exact ⟨Same.refl _, fun T st _ => dq_mono st _ _ dv⟩
theorem wk_tup {K : PySem.W.Frag} {G : Hp} {c : Addr} {vs : List V} (h : G c = some (.tup vs)) (hd : DqAll G vs ds) : Wk (Itt K c) G ds := by
  refine ⟨fun H2 s i d e => ?_, fun H2 s => ⟨vs, SqT.of (s _ _ h), Nat.le_of_eq (dqAll_len hd)⟩⟩
  obtain ⟨v, hv, dv⟩ := dqAll_get hd e
  refine ⟨⟨vs, v, SqT.of (s _ _ h), hv⟩, fun x H3 y => ?_⟩
  obtain ⟨rfl, y⟩ := y
  have := y vs (SqT.of (s _ _ h))
  rw [hv] at this
  cases this
  exact ⟨Same.refl _, fun T st _ => dq_mono st _ _ dv⟩
theorem IV.lst (h : EV X e ρ μ (Ls ds) μ1) : IV X tg e ρ μ ds μ1 := by
  intro w σ H m s R q
  refine ⟨_, pi_list (p_ex (e := e)), ?_⟩
  refine h w σ H m s _ fun v H1 m1 f1 h1 => ?_
  cases h1 with
  | lst ha hd => exact ⟨_, rfl, ⟨_, SqL.of (dl_some ha).2⟩, q _ H1 m1 f1 (wk_lst ha hd)⟩
theorem IV.tup (h : EV X e ρ μ (Tp ds) μ1) : IV X tg e ρ μ ds μ1 := by
  intro w σ H m s R q
  refine ⟨_, pi_tup (p_ex (e := e)), ?_⟩
  refine h w σ H m s _ fun v H1 m1 f1 h1 => ?_
  cases h1 with
  | tup ha hd => exact ⟨_, rfl, ⟨_, SqT.of (dl_some ha).2⟩, q _ H1 m1 f1 (wk_tup ha hd)⟩
noncomputable def strD (s : Str) : List PyData := s.cps.toList.map fun c => .str ⟨#[c]⟩
theorem IV.str (h : EV X e ρ μ (Ss s) μ1) : IV X tg e ρ μ (strD s) μ1 := by
  intro w σ H m s' R q
  refine ⟨_, pi_str (p_ex (e := e)), ?_⟩
  refine h w σ H m s' _ fun v H1 m1 f1 h1 => ?_
  cases h1
  refine ⟨s, rfl, q _ H1 m1 f1 ⟨fun H2 st i d e => ?_, fun H2 st => by show s.cps.size ≤ (strD s).length; simp [strD]⟩⟩
  have hi : i < s.cps.size := by
    have := (List.getElem?_eq_some_iff.mp e).1
    simpa [strD] using this
  refine ⟨hi, fun x H3 y => ?_⟩
  obtain ⟨rfl, c, hc, rfl⟩ := y
  refine ⟨Same.refl _, fun T st2 _ => ?_⟩
  have : d = .str ⟨#[c]⟩ := by
    have hc' : s.cps.toList[i]? = some c := by simpa using hc
    unfold strD at e
    rw [List.getElem?_map, hc'] at e
    simpa using e.symm
  rw [this]
  exact .str _
noncomputable def rngD (lo : Int) (n : Nat) : List PyData := (List.range n).map fun (i : Nat) => PyData.int (lo + (i : Int))
theorem rngD_len {lo : Int} {n : Nat} : (rngD lo n).length = n := by simp [rngD]
theorem wk_rng {lo : Int} {n : Nat} {G : Hp} : Wk (Itr lo n) G (rngD lo n) := by
  refine ⟨fun H2 st i d e => ?_, fun H2 st => by show n ≤ (rngD lo n).length; rw [rngD_len]; exact Nat.le_refl n⟩
  have hi : i < n := by
    have := (List.getElem?_eq_some_iff.mp e).1
    rwa [rngD_len] at this
  refine ⟨hi, fun x H3 y => ?_⟩
  obtain ⟨rfl, rfl⟩ := y
  refine ⟨Same.refl _, fun T st2 _ => ?_⟩
  have : d = .int (lo + (i : Int)) := by
    unfold rngD at e
    rw [List.getElem?_map] at e
    simp [hi] at e
    exact e.symm
  rw [this]
  exact .int _
theorem IV.rng1 (h : EV X a ρ μ (Ii j) μ1) (h1 : -(2 ^ 62) ≤ j) (h2 : j < 2 ^ 62) (hm : X.mg "range" = none) (hg : Gl X "range" := by rfl) (hs : starEach [a] X.env = [(false, eval a X.env)] := by rfl) : IV X tg (.Call (.Name "range" p) [a] [] pos) ρ μ (rngD 0 j.toNat) μ1 := by
  intro w σ H m s R q
  refine ⟨_, pi_range1 hg hm (pa_cons (p_ex (e := a)) pa_nil hs) hs, ?_⟩
  refine h w σ H m s _ fun v H1 m1 f1 hv => ?_
  cases hv
  exact ⟨j, rfl, h1, h2, q _ H1 m1 f1 wk_rng⟩
theorem IV.rng2 (ha : EV X a ρ μ (Ii i) μ1) (hb : EV X b ρ μ1 (Ii j) μ2) (h : -(2 ^ 62) ≤ i ∧ i < 2 ^ 62 ∧ -(2 ^ 62) ≤ j ∧ j < 2 ^ 62) (hm : X.mg "range" = none) (hg : Gl X "range" := by rfl)
    (hs : starEach [a, b] X.env = [(false, eval a X.env), (false, eval b X.env)] := by rfl) (hs2 : starEach [b] X.env = [(false, eval b X.env)] := by rfl) : IV X tg (.Call (.Name "range" p) [a, b] [] pos) ρ μ (rngD i (j - i).toNat) μ2 := by
  intro w σ H m s R q
  refine ⟨_, pi_range2 hg hm (pa_cons (p_ex (e := a)) (pa_cons (p_ex (e := b)) pa_nil (by rw [hs2]; rfl)) (by rw [hs, hs2])) hs hs2, ?_⟩
  refine ha w σ H m s _ fun v H1 m1 f1 hv => ?_
  cases hv
  refine hb w σ H1 m1 (s.fr f1) _ fun v H2 m2 f2 hv => ?_
  cases hv
  exact ⟨i, j, rfl, h, q _ H2 m2 (f1.trans f2) wk_rng⟩
noncomputable def enD : Nat → List PyData → List PyData
  | _, [] => []
  | n, d :: ds => .tuple [.int (n : Int), d] :: enD (n + 1) ds
theorem enD_get : ∀ {ds : List PyData} {n i : Nat} {d : PyData}, (enD n ds)[i]? = some d → ∃ c, ds[i]? = some c ∧ d = .tuple [.int ((n + i : Nat) : Int), c]
  | [], n, i, d, h => by simp [enD] at h
  | x :: xs, n, 0, d, h => by simp [enD] at h; exact ⟨x, rfl, by rw [← h]; rfl⟩
  | x :: xs, n, i + 1, d, h => by
    obtain ⟨c, h1, h2⟩ := enD_get (ds := xs) (n := n + 1) (i := i) (by simpa [enD] using h)
    exact ⟨c, by simpa using h1, by rw [h2]; congr 4; omega⟩
theorem enD_len : ∀ {ds : List PyData} {n : Nat}, (enD n ds).length = ds.length
  | [], _ => rfl
  | x :: xs, n => by simp [enD, enD_len (ds := xs)]
theorem IV.enum {elts : List Expr} {kk : Nat} {tpos : Pos} (h : EV X e ρ μ (Ls ds) μ1) (hm : X.mg "enumerate" = none) (hg : Gl X "enumerate" := by rfl) (hs : starEach [e] X.env = [(false, eval e X.env)] := by rfl) :
    IV X (.Tuple elts kk tpos) (.Call (.Name "enumerate" p) [e] [] pos) ρ μ (enD 0 ds) μ1 := by
  intro w σ H m s R q
  refine ⟨_, pi_enum hg hm (pa_cons (p_ex (e := e)) pa_nil hs) hs, ?_⟩
  refine h w σ H m s _ fun v H1 m1 f1 h1 => ?_
  cases h1 with
  | lst ha hd =>
    rename_i c vs
    refine ⟨_, _, rfl, SqL.of (dl_some ha).2, q _ H1 m1 f1 ⟨fun H2 st i d e => ?_, fun H2 st => ⟨vs, SqL.of (st _ _ ha), by rw [enD_len, dqAll_len hd]; exact Nat.le_refl _⟩⟩⟩
    obtain ⟨y, hy, rfl⟩ := enD_get e
    obtain ⟨u, hu, du⟩ := dqAll_get hd hy
    refine ⟨⟨vs, u, SqL.of (st _ _ ha), hu⟩, fun x H3 yy => ?_⟩
    obtain ⟨T0, x0, rfl, hT, rfl, hx⟩ := yy
    have e0 := hx vs (SqL.of (st _ _ ha))
    rw [hu] at e0
    cases e0
    refine ⟨Same.new hT, fun T st2 tr => ?_⟩
    have nT : T0 ∉ T := fun z => by
      obtain ⟨o, eo⟩ := tr T0 z
      rw [hT] at eo; cases eo
    have e1 : ((0 + i : Nat) : Int) = ((i : Nat) : Int) := by omega
    rw [e1]
    exact Dq.tup (dl_of nT upd_same) (.cons (.int _) (.cons (dq_mono (st2.trans (dl_new hT)) _ _ du) .nil))
end
noncomputable def wipeE (ρ : REnv) : List Nat → REnv
  | [] => ρ
  | v :: vs => (wipeE ρ vs).set v none
theorem sl_wipe {K : PySem.W.Frag} {H : Hp} {w : Wd} {σ : L2.St} {ρ : REnv} (h : Sl K H w σ ρ) : ∀ vs : List Nat, Sl K H w (wipe σ vs) (wipeE ρ vs)
  | [] => h
  | v :: vs => by
    have g := sl_wipe h vs
    refine ⟨by simp [wipe, wipeE, g.len], fun i r e => ?_⟩
    unfold wipeE at e
    unfold wipe
    by_cases hi : v = i
    · subst hi
      rw [List.getElem?_set] at e
      by_cases hl : v < (wipeE ρ vs).length
      · simp [hl] at e
      · simp [hl] at e
    · rw [List.getElem?_set_ne hi] at e
      rw [List.getElem?_set_ne hi]
      exact g.at_ i r e
theorem wipe_set : ∀ (σ : L2.St) (vs : List Nat) (i : Nat) (x : Option V), i ∈ vs → wipe (σ.set i x) vs = wipe σ vs
  | σ, [], i, x, h => absurd h (by simp)
  | σ, v :: vs, i, x, h => by
    unfold wipe
    by_cases hv : i ∈ vs
    · rw [wipe_set σ vs i x hv]
    · have e : i = v := (List.mem_cons.mp h).resolve_right hv
      subst e
      have g : ∀ (us : List Nat) (σ : L2.St), i ∉ us → wipe (σ.set i x) us = (wipe σ us).set i x := by
        intro us
        induction us with
        | nil => intro σ _; rfl
        | cons u us ih =>
          intro σ hn
          unfold wipe
          rw [ih σ (fun z => hn (List.mem_cons_of_mem _ z)), List.set_comm _ _ (fun z => hn (by rw [z]; exact List.mem_cons_self))]
      rw [g vs σ hv, List.set_set]
noncomputable def GV (X : Cx) (tg : Expr) (d : PyData) (ρ ρ' : REnv) (is : List Nat) : Prop :=
  ∀ w σ H μ v, Mem X.K H w μ → Sl X.K H w σ ρ → Val X.K H w v (.dat d) → ∀ Q : L2.St → Hp → Prop, (∀ σ', Sl X.K H w σ' ρ' → wipe σ' is = wipe σ is → Q σ' H) → GX X tg v σ H Q
noncomputable def GsV (X : Cx) (tg : List Expr) (ds : List PyData) (ρ ρ' : REnv) (is : List Nat) : Prop :=
  ∀ w σ H μ vs, Mem X.K H w μ → Sl X.K H w σ ρ → DqAll (dl H w.all) vs ds → ∀ Q : L2.St → Hp → Prop, (∀ σ', Sl X.K H w σ' ρ' → wipe σ' is = wipe σ is → Q σ' H) → GsX X tg vs σ H Q
section
variable {X : Cx} {ρ ρ1 ρ2 : REnv} {d : PyData} {ds : List PyData} {n : Str} {pos : Pos} {tg : Expr} {tgs : List Expr} {is : List Nat}
theorem GV.name {i : Nat} (hN : X.N.Nodup) (hi : X.N[i]? = some n) (hx : Loc X.env.scope n) (hm : i ∈ is) (hf : X.fn n = true ∨ X.env.scope.names.lookup n = some .local := by first | exact .inl rfl | exact .inr rfl | assumption) : GV X (.Name n pos) d ρ (ρ.set i (some (.dat d))) is := by
  intro w σ H μ v m s h Q q
  exact ⟨_, pg_name hN hi hx hf, q _ (s.set h) (wipe_set σ is i _ hm)⟩
theorem GsV.nil : GsV X [] [] ρ ρ is := by
  intro w σ H μ vs m s h Q q
  cases h
  exact ⟨_, pgs_nil, rfl, q σ s rfl⟩
theorem GsV.cons (h1 : GV X tg d ρ ρ1 is) (h2 : GsV X tgs ds ρ1 ρ2 is) (ha : (assignEach (tg :: tgs) X.env).map (·.2) = assign tg X.env :: (assignEach tgs X.env).map (·.2) := by rfl) : GsV X (tg :: tgs) (d :: ds) ρ ρ2 is := by
  intro w σ H μ vs m s h Q q
  cases h with
  | cons a b =>
    refine ⟨_, pgs_cons (p_gx (e := tg)) (p_gsx (e := tgs)) ha, ?_⟩
    refine ⟨_, _, rfl, h1 w σ H μ _ m s a _ fun σ1 s1 e1 => ?_⟩
    exact h2 w σ1 H μ _ m s1 b Q fun σ2 s2 e2 => q σ2 s2 (e2.trans e1)
theorem GV.tup {k : Nat} (h : GsV X tgs ds ρ ρ1 is) (hc : X.calm = true := by rfl) (hn : (assignEach tgs X.env).length = ds.length := by rfl) (hst : (assignEach tgs X.env).findIdx? (·.1) = none := by rfl) : GV X (.Tuple tgs k pos) (.tuple ds) ρ ρ1 is := by
  intro w σ H μ v m s hv Q q
  cases hv with
  | tup ha hd =>
    refine ⟨_, pg_tup hc (p_gsx (e := tgs)) hn hst, ?_⟩
    exact ⟨_, _, rfl, SqT.of (dl_some ha).2, dqAll_len hd, h w σ H μ _ m s hd Q q⟩
end
end J
namespace J
open PySem PySem.Spec
open PyProof.Rows L2
section
variable {X : Cx} {ρ : REnv} {μ μ1 μ2 μ3 : Sto} {x y z r : Ent} {a b c e tg iter elt : Expr} {es : List Expr} {pos p2 p apos : Pos} {rs : List Ent} {ds out : List PyData} {d : PyData} {i j : Int} {s t n : Str} {k : Bool}
theorem EVF.ev (h : EVF X e ρ μ ds μ1) : EV X e ρ μ (Ls ds) μ1 := by
  intro w σ H m s Q q
  refine h w σ H m s Q fun p H' vs m' f hp e hd => ?_
  refine q _ H' m'.unkeep f ?_
  exact Dq.lst (dl_of (m.freshN hp) e) (dqAll_mono (dl_sub fun b hb => all_wk'.mpr (.inr hb)) _ _ hd)
theorem Sl.same2 {K : PySem.W.Frag} {H H' : Hp} {w : Wd} {D : Addr} {σ : L2.St} (h : Sl K H w σ ρ) (f : Same (dl H w.all) (dl H' (wk' w D).all)) : Sl K H' (wk' w D) σ ρ := ⟨h.len, fun i r e => by
  obtain ⟨v, a, b⟩ := h.at_ i r e
  refine ⟨v, a, ?_⟩
  cases r with
  | dat d => exact dq_mono f d v b
  | ptr k => exact b
  | obj C fs =>
    obtain ⟨x, dx, ws, e, hx, hn, hd⟩ := b
    exact ⟨x, dx, ws, e, f _ _ hx, hn, dqAll_mono f _ _ hd⟩
  | scr ns =>
    obtain ⟨a, e, hs⟩ := b
    exact ⟨a, e, Same.seq f hs⟩
  | raw u => exact b
  | exc a d fs =>
    obtain ⟨e, ws, hx, hn, hd⟩ := b
    exact ⟨e, ws, f _ _ hx, hn, dqAll_mono f _ _ hd⟩⟩
noncomputable abbrev blkX (X : Cx) (scope : Scope) (s : Shared) (H : Hp) (C : Addr) (cl : List (Str × Addr)) (fp : List Addr) : Cx := X.blk s H scope (compEnvC scope cl C X.env) fp
noncomputable def gC (X : Cx) (scope : Scope) (tg : Expr) : TG := fun v σ H Q => ∀ s H0 C cl fp, GX (blkX X scope s H0 C cl fp) tg v σ H Q
noncomputable def ttC (X : Cx) (scope : Scope) (ifs : List Expr) : TT := fun σ H Q => (ifs = [] ∧ Q true H) ∨ ∃ c, ifs = [c] ∧ ∀ s H0 C cl fp, TX (blkX X scope s H0 C cl fp) c σ H Q
noncomputable def teC (X : Cx) (scope : Scope) (elt : Expr) : TE := fun σ H Q => ∀ s H0 C cl fp, EX (blkX X scope s H0 C cl fp) elt σ H Q
theorem pg_C {scope : Scope} (s : Shared) (H : Hp) (C : Addr) (cl : List (Str × Addr)) (fp : List Addr) : PG (X.blk s H scope (compEnvC scope cl C X.env) fp) tg (gC X scope tg) :=
    ⟨fun pins s1 σ H1 v u Q I r h => (p_gx (X := blkX X scope s H C cl fp) (e := tg)).run pins s1 σ H1 v u Q I r (h s H C cl fp)⟩
theorem pts_C {scope : Scope} {ifs : List Expr} (s : Shared) (H : Hp) (C : Addr) (cl : List (Str × Addr)) (fp : List Addr) : PTs (X.blk s H scope (compEnvC scope cl C X.env) fp) ifs (ttC X scope ifs) :=
    ⟨fun pins s1 σ H1 Q I h => by
      rcases h with ⟨rfl, h⟩ | ⟨c, rfl, h⟩
      · exact pts_nil.run pins s1 σ H1 Q I h
      · exact (pts_one (p_tx (X := blkX X scope s H C cl fp) (e := c))).run pins s1 σ H1 Q I (h s H C cl fp)⟩
theorem pe_C {scope : Scope} (s : Shared) (H : Hp) (C : Addr) (cl : List (Str × Addr)) (fp : List Addr) : PE (X.blk s H scope (compEnvC scope cl C X.env) fp) elt (teC X scope elt) :=
    ⟨fun pins s1 σ H1 Q I h => (p_ex (X := blkX X scope s H C cl fp) (e := elt)).run pins s1 σ H1 Q I (h s H C cl fp)⟩
noncomputable def LCV (X : Cx) (elt tg iter : Expr) (ifs : List Expr) (scope : Scope) (own : List (Str × Nat)) (ρ : REnv) (μ : Sto) (out : List PyData) (μ3 : Sto) : Prop :=
  ∀ w σ H, Mem X.K H w μ → Sl X.K H w σ ρ → ∀ Q : VK, (∀ p H' vs, Mem X.K H' (wk' w p) μ3 → Fr w.α H H' → Nw H p → H' p = some (.lst vs) → DqAll (dl H' (wk' w p).all) vs out → Q (.ref p) H') → tLc (IX X tg iter) (gC X scope tg) (ttC X scope ifs) (teC X scope elt) (own.map (·.2)) σ H Q
theorem LCV.mk {scope : Scope} {own : List (Str × Nat)} {ifs : List Expr} (hi : IV X tg iter ρ μ ds μ1) (Iv : Nat → List PyData → Sto → Prop) (h0 : Iv 0 [] μ1)
    (hs : ∀ i d acc μ, ds[i]? = some d → Iv i acc μ → ∃ ρ', (∀ s H C cl fp, GV (blkX X scope s H C cl fp) tg d (wipeE ρ (own.map (·.2))) ρ' (own.map (·.2))) ∧ ∃ (k : Bool) (μ2 : Sto), ((ifs = [] ∧ k = true ∧ μ2 = μ) ∨ ∃ c, ifs = [c] ∧ ∀ s H C cl fp, TV (blkX X scope s H C cl fp) c ρ' μ k μ2) ∧
      if k = true then ∃ y μ', (∀ s H C cl fp, EV (blkX X scope s H C cl fp) elt ρ' μ2 (.dat y) μ') ∧ Iv (i + 1) (acc ++ [y]) μ' else Iv (i + 1) acc μ2)
    (hd : ∀ acc μ, Iv ds.length acc μ → acc = out ∧ μ = μ3) (hl : ds.length ≤ 100000) : LCV X elt tg iter ifs scope own ρ μ out μ3 := by
  intro w σ H m s Q q
  refine hi w σ H m s _ fun J H1 m1 f1 wk => ?_
  intro D hD
  have hD0 : Nw H D := Nw.back f1 (Nw.of hD) (m1.fresh hD)
  -- between two turns
  refine ⟨fun i n H2 => n = ds.length - i ∧ i ≤ ds.length ∧ ∃ acc μa vs, Iv i acc μa ∧ acc.length ≤ i ∧ Mem X.K H2 (wk' w D) μa ∧ Fr w.α H1 (fun b => if b = D then none else H2 b) ∧ H2 D = some (.lst vs) ∧ DqAll (dl H2 (wk' w D).all) vs acc, ⟨ds.length, by simp, Nat.zero_le _, [], μ1, [], h0, by simp, m1.keep hD, fun b o e hb _ => ?_, upd_same, .nil⟩, ?_⟩
  · have : b ≠ D := ne_of_none e hD
    simp [this, upd_ne this, e]
  rintro i n H2 ⟨rfl, hi', acc, μa, vs, iv, hla, m2, f2, e2, hd2⟩
  have fr2 : ∀ b o, H1 b = some o → b ∉ w.α → Nt o → H2 b = some o := fun b o e hb nt => by
    have : (if b = D then none else H2 b) = some o := f2 b o e hb nt
    by_cases z : b = D
    · rw [if_pos z] at this; cases this
    · rwa [if_neg z] at this
  have g12 : Same (dl H1 w.all) (dl H2 (wk' w D).all) := keep_out (K := X.K) hD fr2 ⟨_, e2⟩
  have g12' : Same (dl H1 w.all) H2 := g12.trans dl_same
  by_cases hlt : i < ds.length
  · obtain ⟨d, hdi⟩ : ∃ d, ds[i]? = some d := ⟨ds[i], by simp [hlt]⟩
    obtain ⟨go, yl⟩ := wk.go H2 g12' i d hdi
    refine .inr ⟨go, fun H' => ∃ acc μa vs, Iv (i + 1) acc μa ∧ acc.length ≤ i + 1 ∧ Mem X.K H' (wk' w D) μa ∧ Fr w.α H1 (fun b => if b = D then none else H' b) ∧ H' D = some (.lst vs) ∧ DqAll (dl H' (wk' w D).all) vs acc, fun H' h => ⟨ds.length - (i + 1), by omega, rfl, hlt, h⟩, fun x H3 y3 => ?_⟩
    obtain ⟨s23, dx⟩ := yl x H3 y3
    have dx3 : Dq (dl H3 (wk' w D).all) x d := dx _ g12 fun b hb => (all_wk'.mp hb).elim (fun z => z ▸ ⟨_, e2⟩) fun hb => (List.mem_append.mp hb).elim (fun z => (m2.there z).elim fun vs e => ⟨_, e⟩) fun z => m2.ex1 (List.mem_cons_of_mem _ z)
    have m3 := m2.same s23
    have f23 : Fr (wk' w D).α H2 H3 := Fr.of_same s23
    have sl3 : Sl X.K H3 (wk' w D) (wipe σ (own.map (·.2))) (wipeE ρ (own.map (·.2))) := (sl_wipe ((s.fr f1).same2 g12) _).fr f23
    obtain ⟨ρ', hgv, kt, μt, htv, rest⟩ := hs i d acc μa hdi iv
    intro s' H0 C cl fp
    refine hgv s' H0 C cl fp _ _ H3 μa x m3 sl3 dx3 _ fun σ4 sl4 ew => ⟨ew.trans (by
      have : ∀ (vs : List Nat) (σ : L2.St), wipe (wipe σ vs) vs = wipe σ vs := by
        intro vs
        have aux : ∀ (us : List Nat) (σ : L2.St), (∀ u ∈ us, u ∈ vs) → wipe (wipe σ us) vs = wipe σ vs := by
          intro us
          induction us with
          | nil => intro σ _; rfl
          | cons u us ih =>
            intro σ hu
            show wipe ((wipe σ us).set u none) vs = wipe σ vs
            rw [wipe_set _ _ _ _ (hu u List.mem_cons_self)]
            exact ih σ fun z hz => hu z (List.mem_cons_of_mem _ hz)
        exact fun σ => aux vs σ fun u h => h
      exact this _ σ), ?_⟩
    -- behind the target
    have fin : ∀ (k : Bool) (H5 : Hp), Mem X.K H5 (wk' w D) μt → Fr w.α H3 H5 → k = kt → (if k = true then (∀ s H0 C cl fp, EX (blkX X scope s H0 C cl fp) elt σ4 H5 fun y H4 => ∃ acc, H4 D = some (.lst acc) ∧ acc.length < sizeLine ∧ ∃ acc' μa vs, Iv (i + 1) acc' μa ∧ acc'.length ≤ i + 1 ∧ Mem X.K (upd H4 D (.lst (acc ++ [y]))) (wk' w D) μa ∧ Fr w.α H1 (fun b => if b = D then none else (upd H4 D (.lst (acc ++ [y]))) b) ∧ (upd H4 D (.lst (acc ++ [y]))) D = some (.lst vs) ∧ DqAll (dl (upd H4 D (.lst (acc ++ [y]))) (wk' w D).all) vs acc')
        else ∃ acc μa vs, Iv (i + 1) acc μa ∧ acc.length ≤ i + 1 ∧ Mem X.K H5 (wk' w D) μa ∧ Fr w.α H1 (fun b => if b = D then none else H5 b) ∧ H5 D = some (.lst vs) ∧ DqAll (dl H5 (wk' w D).all) vs acc) := by
      intro k H5 m5 f35 ek
      subst ek
      have hDa : D ∉ w.α := m2.out D List.mem_cons_self
      have e5 : H5 D = some (.lst vs) := f35 D _ (s23 _ _ e2) hDa (fun q z => by cases z)
      have g25 : Same (dl H2 (wk' w D).all) (dl H5 (wk' w D).all) := Fr.all (w := wk' w D) (f23.trans f35)
      cases k with
      | false =>
        refine iteF ?_
        refine ⟨acc, μt, vs, by simpa using rest, Nat.le_succ_of_le hla, m5, fun b o e hb nt => ?_, e5, dqAll_mono g25 _ _ hd2⟩
        have nb : b ≠ D := ne_of_none e hD
        simp only [nb, if_false]
        exact (f23.trans f35) b o (fr2 b o e hb nt) hb nt
      | true =>
        refine iteT ?_
        intro s' H0 C cl fp
        obtain ⟨y, μ', hev, ivn⟩ := (by simpa using rest : ∃ y μ', (∀ s H C cl fp, EV (blkX X scope s H C cl fp) elt ρ' μt (.dat y) μ') ∧ Iv (i + 1) (acc ++ [y]) μ')
        refine hev s' H0 C cl fp (wk' w D) σ4 H5 m5 (sl4.fr f35) _ fun v H6 m6 f56 hv => ?_
        have e6 : H6 D = some (.lst vs) := f56 D _ e5 hDa (fun q z => by cases z)
        have g56 : Same (dl H5 (wk' w D).all) (dl H6 (wk' w D).all) := Fr.all (w := wk' w D) f56
        refine ⟨vs, e6, ?_, acc ++ [y], μ', vs ++ [v], ivn, by simp; exact hla, m6.outs, fun b o e hb nt => ?_, upd_same, dqAll_append (dqAll_mono ((g25.trans g56).trans same_outs) _ _ hd2) (.cons (dq_mono same_outs _ _ hv) .nil)⟩
        · rw [dqAll_len hd2]
          exact Nat.lt_of_le_of_lt (Nat.le_trans hla (Nat.le_of_lt (Nat.lt_of_lt_of_le hlt hl))) (by decide)
        · have nb : b ≠ D := ne_of_none e hD
          simp only [nb, if_false, upd_ne nb]
          exact ((f23.trans f35).trans f56) b o (fr2 b o e hb nt) hb nt
    rcases htv with ⟨hi0, rfl, rfl⟩ | ⟨c, hi1, htv⟩
    · exact .inl ⟨hi0, fin true H3 m3 Fr.refl rfl⟩
    · exact .inr ⟨c, hi1, fun s' H0 C cl fp => htv s' H0 C cl fp (wk' w D) σ4 H3 m3 sl4 _ fun H5 m5 f35 => fin kt H5 m5 f35 rfl⟩
  · have ei : i = ds.length := by omega
    subst ei
    obtain ⟨rfl, rfl⟩ := hd acc μa iv
    refine .inl ⟨wk.stop H2 g12', ?_⟩
    exact q D H2 vs m2 (f1.trans fr2) hD0 e2 hd2
theorem LCV.evf {scope : Scope} {own : List (Str × Nat)} {ifs : List Expr} (h : LCV X elt tg iter ifs scope own ρ μ out μ3) (hc : X.calm = true) (hN : X.N.Nodup) (ok : BlkOk X.N X.env.scope scope own) (hst : ∀ x, foldedSetIterable iter X.env x = pure x := by intro _; rfl) : EVF X (.ListComp elt [⟨tg, iter, ifs, 0⟩] scope pos) ρ μ out μ3 :=
  fun w σ H m s Q q => ⟨_, pe_lc hc hN (p_ix (tg := tg) (e := iter)) ok pg_C pts_C pe_C hst, h w σ H m s Q q⟩
theorem LCV.map {scope : Scope} {own : List (Str × Nat)} (f : PyData → PyData) (hi : IV X tg iter ρ μ ds μ1)
    (hs : ∀ d ∈ ds, ∃ ρ', (∀ s H C cl fp, GV (blkX X scope s H C cl fp) tg d (wipeE ρ (own.map (·.2))) ρ' (own.map (·.2))) ∧ (∀ s H C cl fp, EV (blkX X scope s H C cl fp) elt ρ' μ1 (.dat (f d)) μ1))
    (hl : ds.length ≤ 100000) : LCV X elt tg iter [] scope own ρ μ (ds.map f) μ1 := by
  refine LCV.mk hi (fun i acc μ => acc = (ds.take i).map f ∧ μ = μ1) ⟨by simp, rfl⟩ (fun i d acc μ e h => ?_) (fun acc μ h => ⟨by simpa using h.1, h.2⟩) hl
  obtain ⟨rfl, rfl⟩ := h
  obtain ⟨ρ', h1, h2⟩ := hs d (List.mem_iff_getElem?.mpr ⟨i, e⟩)
  refine ⟨ρ', h1, true, _, .inl ⟨rfl, rfl, rfl⟩, iteT ⟨f d, _, h2, ?_, rfl⟩⟩
  rw [List.take_succ, e]
  simp
end
end J
namespace J
open PySem PySem.Spec
open PyProof.Rows L2
section
variable {X : Cx} {ρ : REnv} {μ μ1 μ2 μ3 : Sto} {x y z r : Ent} {a b c e o tg iter elt : Expr} {es : List Expr} {pos p2 p apos : Pos} {rs : List Ent} {ds out : List PyData} {d : PyData} {i j : Int} {s t n : Str} {k : Bool}
theorem EV.un {op : UnaryOp} {q : V → Hp → VK → Prop} (ho : UnR X (unaryOp op) q) (ha : EV X a ρ μ x μ1) (h : ∀ w H v, Mem X.K H w μ1 → Val X.K H w v x → ∃ t, Val X.K H w t z ∧ ∀ Q : VK, Q t H → q v H Q) : EV X (.UnaryOp op a pos) ρ μ z μ1 := by
  intro w σ H m s Q qq
  refine ⟨_, pe_un ho (p_ex (e := a)), ?_⟩
  refine ha w σ H m s _ fun v H1 m1 f1 h1 => ?_
  obtain ⟨t, ht, hr⟩ := h w H1 v m1 h1
  exact hr _ (qq t H1 m1 f1 ht)
theorem EV.neg (ha : EV X a ρ μ (Ii i) μ1) : EV X (.UnaryOp .USub a pos) ρ μ (Ii (-i)) μ1 := ha.un un_neg fun w H v m h => by
  cases h
  exact ⟨_, Dq.int _, fun Q q => ⟨i, rfl, q⟩⟩
noncomputable def PartV (X : Cx) (e : Option Expr) (ρ : REnv) (μ : Sto) (o : Option Int) (μ' : Sto) : Prop := ∀ w σ H, Mem X.K H w μ → Sl X.K H w σ ρ → ∀ Q : Option Int → Hp → Prop, (∀ H', Mem X.K H' w μ' → Fr w.α H H' → Q o H') → OX X e σ H Q
theorem PartV.none : PartV X none ρ μ none μ := fun w σ H m s Q q => ⟨_, po_none, q H m .refl⟩
theorem PartV.some (h : EV X e ρ μ (Ii i) μ1) : PartV X (some e) ρ μ (some i) μ1 := by
  intro w σ H m s Q q
  refine ⟨_, po_some (p_ex (e := e)), ?_⟩
  refine h w σ H m s _ fun v H1 m1 f1 h1 => ?_
  cases h1
  exact ⟨i, rfl, q H1 m1 f1⟩
noncomputable def cutD (xs : List PyData) (lo hi : Option Int) : List PyData := (xs.drop (HT.sIx xs.length 0 lo)).take (HT.sIx xs.length xs.length hi - HT.sIx xs.length 0 lo)
theorem dq_cut {H : Hp} {vs : List V} (h : DqAll H vs ds) (lo hi : Option Int) : DqAll H (cutV vs lo hi) (cutD ds lo hi) := by
  unfold cutV cutD
  rw [dqAll_len h]
  exact dqAll_take _ (dqAll_drop _ h)
theorem EV.slT {lo hi : Option Expr} {l h : Option Int} (ha : EV X a ρ μ (Tp ds) μ1) (hl : PartV X lo ρ μ1 l μ2) (hh : PartV X hi ρ μ2 h μ3) : EV X (.Subscript a (.Slice lo hi none p2) pos) ρ μ (Tp (cutD ds l h)) μ3 := by
  intro w σ H m s Q q
  refine ⟨_, pe_slice sl_tupA (p_ex (e := a)) (p_ox (e := lo)) (p_ox (e := hi)), ?_⟩
  refine ha w σ H m s _ fun v H1 m1 f1 h1 => ?_
  refine hl w σ H1 m1 (s.fr f1) _ fun H2 m2 f2 => ?_
  refine hh w σ H2 m2 ((s.fr f1).fr f2) _ fun H3 m3 f3 => ?_
  have h3 := (h1.fr f2).fr f3
  have h3' := h3
  cases h3 with
  | tup hs hd =>
    refine ⟨_, _, rfl, SqT.of (dl_some hs).2, fun z => ?_, fun _ => new_tup m3 (dq_cut hd l h) fun v H4 m4 f4 h4 => q v H4 m4 (((f1.trans f2).trans f3).trans f4) h4⟩
    have e : cutD ds l h = ds := by
      unfold cutD
      rw [← dqAll_len hd, z.1, z.2]
      simp [dqAll_len hd]
    rw [e] at q
    exact q _ H3 m3 ((f1.trans f2).trans f3) h3'
theorem EV.slL {lo hi : Option Expr} {l h : Option Int} (ha : EV X a ρ μ (Ls ds) μ1) (hl : PartV X lo ρ μ1 l μ2) (hh : PartV X hi ρ μ2 h μ3) : EV X (.Subscript a (.Slice lo hi none p2) pos) ρ μ (Ls (cutD ds l h)) μ3 := by
  intro w σ H m s Q q
  refine ⟨_, pe_slice sl_list (p_ex (e := a)) (p_ox (e := lo)) (p_ox (e := hi)), ?_⟩
  refine ha w σ H m s _ fun v H1 m1 f1 h1 => ?_
  refine hl w σ H1 m1 (s.fr f1) _ fun H2 m2 f2 => ?_
  refine hh w σ H2 m2 ((s.fr f1).fr f2) _ fun H3 m3 f3 => ?_
  have h3 := (h1.fr f2).fr f3
  cases h3 with
  | lst hs hd => exact ⟨_, _, rfl, SqL.of (dl_some hs).2, new_lst m3 (dq_cut hd l h) fun v H4 m4 f4 h4 => q v H4 m4 (((f1.trans f2).trans f3).trans f4) h4⟩
theorem EV.slScr {lo hi : Option Expr} {l h : Option Int} {ns : List Int} (ha : EV X a ρ μ (.scr ns) μ1) (hl : PartV X lo ρ μ1 l μ2) (hh : PartV X hi ρ μ2 h μ3) : EV X (.Subscript a (.Slice lo hi none p2) pos) ρ μ (Ls (cutD (ns.map .int) l h)) μ3 := by
  intro w σ H m s Q q
  refine ⟨_, pe_slice sl_list (p_ex (e := a)) (p_ox (e := lo)) (p_ox (e := hi)), ?_⟩
  refine ha w σ H m s _ fun v H1 m1 f1 h1 => ?_
  refine hl w σ H1 m1 (s.fr f1) _ fun H2 m2 f2 => ?_
  refine hh w σ H2 m2 ((s.fr f1).fr f2) _ fun H3 m3 f3 => ?_
  obtain ⟨a0, rfl, hs⟩ := (h1.fr f2).fr f3
  have hd : ∀ (ns : List Int), DqAll (dl H3 w.all) (ns.map V.int) (ns.map .int) := by
    intro ns
    induction ns with
    | nil => exact .nil
    | cons n ns ih => exact .cons (.int n) ih
  exact ⟨_, _, rfl, Same.seq dl_same hs, new_lst m3 (dq_cut (hd ns) l h) fun v H4 m4 f4 h4 => q v H4 m4 (((f1.trans f2).trans f3).trans f4) h4⟩
theorem EV.m1 {id : String} {q : V → List V → Hp → VK → Prop} (slot : Slot "str" n id) (ty : typeOf (.builtin id) = pure (.type "method_descriptor")) (rule : MtR X id q) (ho : EV X o ρ μ (Ss s) μ1) (he : EV X e ρ μ1 y μ2)
    (h : ∀ w H u, Mem X.K H w μ2 → Val X.K H w u y → ∀ Q : VK, (∀ t H', Mem X.K H' w μ2 → Fr w.α H H' → Val X.K H' w t z → Q t H') → q (.str s) [u] H Q)
    (hs : starEach [e] X.env = [(false, eval e X.env)] := by rfl) (hbase : attributeBase o n X.env (eval o X.env) = eval o X.env := by rfl) (hline : (apos.endLine == pos.line) = true := by rfl) : EV X (.Call (.Attribute o n apos) [e] [] pos) ρ μ z μ2 := by
  intro w σ H m s' Q qq
  refine ⟨_, pe_m1 slot ty rule (p_ex (e := o)) (p_ex (e := e)) hs hbase hline, ?_⟩
  refine ho w σ H m s' _ fun v H1 m1 f1 h1 => ?_
  cases h1
  refine ⟨⟨s, rfl⟩, ?_⟩
  refine he w σ H1 m1 (s'.fr f1) _ fun u H2 m2 f2 h2 => ?_
  exact h w H2 u m2 h2 Q fun t H3 m3 f3 h3 => qq t H3 m3 ((f1.trans f2).trans f3) h3
theorem EV.split (ho : EV X o ρ μ (Ss s) μ1) (he : EV X e ρ μ1 (Ss t) μ2) (h1 : (t.length == 0) = false) (h2 : s.length + 2 ≤ sizeLine)
    (hs : starEach [e] X.env = [(false, eval e X.env)] := by rfl) (hbase : attributeBase o "split" X.env (eval o X.env) = eval o X.env := by rfl) (hline : (apos.endLine == pos.line) = true := by rfl) : EV X (.Call (.Attribute o "split" apos) [e] [] pos) ρ μ (Ls ((Txt.split s t).map .str)) μ2 :=
  EV.m1 F.slot_str_split F.type_str_split mt_split ho he (fun w H u m hu Q q => by
    cases hu
    exact ⟨s, t, rfl, rfl, h1, h2, new_lst m (dqAll_strs _) q⟩) hs hbase hline
theorem EV.join {ys : List Str} (ho : EV X o ρ μ (Ss s) μ1) (he : EV X e ρ μ1 (Ls (ys.map .str)) μ2) (h1 : (ys.map (·.length)).sum + ys.length * s.length ≤ 16777216)
    (hs : starEach [e] X.env = [(false, eval e X.env)] := by rfl) (hbase : attributeBase o "join" X.env (eval o X.env) = eval o X.env := by rfl) (hline : (apos.endLine == pos.line) = true := by rfl) : EV X (.Call (.Attribute o "join" apos) [e] [] pos) ρ μ (Ss (Txt.join s ys)) μ2 :=
  EV.m1 F.slot_str_join F.type_str_join mt_join ho he (fun w H u m hu Q q => by
    cases hu with
    | lst ha hd =>
      rw [dqAll_strs' hd] at ha
      exact ⟨s, _, ys, rfl, rfl, .inl (SqL.of (dl_some ha).2), h1, q _ _ m .refl (Dq.str _)⟩) hs hbase hline
theorem EV.fmtS (h : EV X e ρ μ (Ss s) μ1) (hz : s.length ≤ sizeLine) : EV X (.FormattedValue e (-1) none pos) ρ μ (Ss s) μ1 := by
  intro w σ H m s' Q q
  refine ⟨_, pe_fmt (p_ex (e := e)), ?_⟩
  refine h w σ H m s' _ fun v H1 m1 f1 h1 => ?_
  cases h1
  exact .inl ⟨s, rfl, hz, q _ H1 m1 f1 (Dq.str _)⟩
theorem EV.fmtI (h : EV X e ρ μ (Ii i) μ1) (hz : i.natAbs.log2 < 1920) : EV X (.FormattedValue e (-1) none pos) ρ μ (Ss (toString i : String)) μ1 := by
  intro w σ H m s' Q q
  refine ⟨_, pe_fmt (p_ex (e := e)), ?_⟩
  refine h w σ H m s' _ fun v H1 m1 f1 h1 => ?_
  cases h1
  exact .inr ⟨i, rfl, hz, q _ H1 m1 f1 (Dq.str _)⟩
theorem pj_ex : ∀ es : List Expr, PJ X es (es.map (EX X))
  | [] => .nil
  | e :: es => .cons p_ex (pj_ex es)
inductive JV (X : Cx) (ρ : REnv) (μ : Sto) : List Expr → List Str → Prop where
  | nil : JV X ρ μ [] []
  | cons {e : Expr} {s : Str} {es : List Expr} {ss : List Str} (h : EV X e ρ μ (Ss s) μ) (r : JV X ρ μ es ss) : JV X ρ μ (e :: es) (s :: ss)
noncomputable def catS : Str → List Str → Str
  | acc, [] => acc
  | acc, s :: ss => catS (acc ++ s) ss
noncomputable def fitS : Str → List Str → Prop
  | _, [] => True
  | acc, s :: ss => (acc ++ s).length ≤ sizeLine ∧ fitS (acc ++ s) ss
theorem jv_run (w : Wd) : ∀ {es : List Expr} {ss : List Str}, JV X ρ μ es ss → ∀ (acc : Str) (σ : L2.St) (H : Hp) (Q : Str → Hp → Prop), Mem X.K H w μ → Sl X.K H w σ ρ → fitS acc ss → (∀ H', Mem X.K H' w μ → Fr w.α H H' → Q (catS acc ss) H') → tJs (es.map (EX X)) acc σ H Q
  | [], _, .nil, acc, σ, H, Q, m, s, _, q => q H m .refl
  | e :: es, _, .cons h r, acc, σ, H, Q, m, s, f, q => by
    show EX X e σ H _
    refine h w σ H m s _ fun v H1 m1 f1 h1 => ?_
    cases h1
    exact ⟨_, rfl, f.1, jv_run w r _ σ H1 Q m1 (s.fr f1) f.2 fun H2 m2 f2 => q H2 m2 (f1.trans f2)⟩
theorem EV.joined {v1 v2 : Expr} {rest : List Expr} {ss : List Str} (h : JV X ρ μ (v1 :: v2 :: rest) ss) (hf : fitS Str.empty ss) : EV X (.JoinedStr (v1 :: v2 :: rest) pos) ρ μ (Ss (catS Str.empty ss)) μ := by
  intro w σ H m s Q q
  exact ⟨_, pe_joined (pj_ex _), jv_run w h Str.empty σ H _ m s hf fun H' m' f' => q _ H' m' f' (Dq.str _)⟩
end
inductive Out where
  | nx (ρ : REnv) (μ : Sto)
  | ret (r : Ent) (μ : Sto)
  | brk (ρ : REnv) (μ : Sto)
  | ct (ρ : REnv) (μ : Sto)
  | rse (ρ : REnv) (μ : Sto) (C : Addr) (fs : List (Str × PyData))
noncomputable abbrev W0 : WX := fun _ _ _ _ => False
noncomputable def Xd (H : Hp) (w : Wd) (od : Option Addr) (fs : List (Str × PyData)) : Prop := match od with
  | none => fs = []
  | some d => ∃ ws : List (Str × V), H d = some (.xd ws) ∧ d ∉ w.all ∧ ws.map (·.1) = fs.map (·.1) ∧ DqAll (dl H w.all) (ws.map (·.2)) (fs.map (·.2))
noncomputable abbrev Wd.add (w : Wd) (β : List Addr) : Wd := ⟨w.α ++ β, w.ξ⟩
noncomputable abbrev Wd.cut (w : Wd) (n : Nat) : Wd := ⟨w.α.take n, w.ξ⟩
noncomputable def Nx (X : Cx) (w : Wd) (H : Hp) (k : Wd → L2.St → Hp → Prop) (ρ : REnv) (μ : Sto) : Prop := ∀ β σ H', Mem X.K H' (w.add β) μ → Sl X.K H' (w.add β) σ ρ → Fr w.α H H' → (∀ b ∈ β, Nw H b) → k (w.add β) σ H'
noncomputable def Fin (X : Cx) (W : WX) (n : Nat) (w : Wd) (H : Hp) (D : Ends) : Out → Prop
  | .nx ρ μ => Nx X w H (fun _ => D.nx) ρ μ
  | .brk ρ μ => Nx X w H (fun _ => D.bk) ρ μ
  | .ct ρ μ => Nx X w H (fun _ => D.ct) ρ μ
  | .ret r μ => ∀ v H', Mem X.K H' (w.cut n) μ → Fr w.α H H' → Val X.K H' (w.cut n) v r → D.rt v H'
  | .rse ρ μ C fs => ∀ od, Nx X w H (fun w' σ H' => Xd H' w' od fs → W (.ref C) od σ H') ρ μ
noncomputable def ST (X : Cx) (W : WX) (n : Nat) (sts : List Stmt) (ρ : REnv) (μ : Sto) (P : Out → Prop) : Prop :=
  ∀ w σ H D, n ≤ w.α.length → Mem X.K H w μ → Sl X.K H w σ ρ → (∀ o, P o → Fin X W n w H D o) → SX X sts D σ H
section
variable {X : Cx} {W : WX} {n : Nat} {w : Wd} {H H' : Hp} {D : Ends} {o : Out} {β : List Addr} {k : Wd → L2.St → Hp → Prop} {ρ : REnv} {μ : Sto}
theorem wd_add_add {β β' : List Addr} : (w.add β).add β' = w.add (β ++ β') := by simp [Wd.add]
theorem Nx.grow (h : Nx X w H k ρ μ) (f : Fr w.α H H') (hb : ∀ b ∈ β, Nw H b) : Nx X (w.add β) H' k ρ μ := by
  intro β' σ H2 m s f2 hb2
  rw [wd_add_add] at m s ⊢
  refine h (β ++ β') σ H2 m s (fun b o e hn nt => ?_) fun b hb3 => ?_
  · refine f2 b o (f b o e hn nt) (fun z => ?_) nt
    rcases List.mem_append.mp z with z | z
    · exact hn z
    · exact hb b z o e nt
  · rcases List.mem_append.mp hb3 with z | z
    · exact hb b z
    · refine Nw.back f (hb2 b z) fun y => ?_
      have nd := m.nd
      have : b ∈ w.α ∧ b ∈ β ++ β' := ⟨y, List.mem_append_right _ z⟩
      exact (List.nodup_append.mp nd).2.2 b this.1 b this.2 rfl
theorem take_add {n : Nat} (hn : n ≤ w.α.length) : (w.add β).cut n = w.cut n := by
  show (⟨(w.α ++ β).take n, w.ξ⟩ : Wd) = ⟨w.α.take n, w.ξ⟩
  rw [List.take_append_of_le_length hn]
theorem Fin.grow (h : Fin X W n w H D o) (hn : n ≤ w.α.length) (f : Fr w.α H H') (hb : ∀ b ∈ β, Nw H b) : Fin X W n (w.add β) H' D o := by
  cases o with
  | nx ρ μ => exact Nx.grow (X := X) (k := fun _ => D.nx) h f hb
  | brk ρ μ => exact Nx.grow (X := X) (k := fun _ => D.bk) h f hb
  | ct ρ μ => exact Nx.grow (X := X) (k := fun _ => D.ct) h f hb
  | rse ρ μ C fs => exact fun od => Nx.grow (X := X) (h od) f hb
  | ret r μ =>
    intro v H2 m f2 hv
    rw [take_add hn] at m hv
    refine h v H2 m (fun b o e hn nt => ?_) hv
    refine f2 b o (f b o e hn nt) (fun z => ?_) nt
    rcases List.mem_append.mp z with z | z
    · exact hn z
    · exact hb b z o e nt
theorem add_nil : w.add [] = w := by simp [Wd.add]
theorem Fin.step (h : Fin X W n w H D o) (hn : n ≤ w.α.length) (f : Fr w.α H H') : Fin X W n w H' D o := by
  have := Fin.grow (β := []) h hn f fun b hb => absurd hb (by simp)
  rwa [add_nil] at this
end
noncomputable def frz (n : Nat) (μ : Sto) : Ent → Ent
  | .ptr k => if k < n then .ptr k else .dat (.list (μ.getD k []))
  | r => r
theorem val_frz {K : PySem.W.Frag} {H : Hp} {w : Wd} {μ : Sto} {v : V} {r : Ent} {n : Nat} (m : Mem K H w μ) (h : Val K H w v r) : Val K H (w.cut n) v (frz n μ r) := by
  have sub : Same (dl H w.all) (dl H (w.cut n).all) := dl_sub fun b hb => (List.mem_append.mp hb).elim (fun z => List.mem_append_left _ (List.mem_of_mem_take z)) fun z => List.mem_append_right _ z
  cases r with
  | dat d => exact dq_mono sub _ _ h
  | obj C fs =>
    obtain ⟨x, dx, ws, e, hx, hn, hd⟩ := h
    exact ⟨x, dx, ws, e, sub _ _ hx, hn, dqAll_mono sub _ _ hd⟩
  | scr ns =>
    obtain ⟨a, e, hs⟩ := h
    exact ⟨a, e, Same.seq sub hs⟩
  | raw u => exact h
  | exc a d fs =>
    obtain ⟨e, ws, hx, hn, hd⟩ := h
    exact ⟨e, ws, sub _ _ hx, hn, dqAll_mono sub _ _ hd⟩
  | ptr k =>
    obtain ⟨a, ha, rfl⟩ := h
    show Val K H (w.cut n) (V.ref a) (if k < n then Ent.ptr k else Ent.dat (PyData.list (List.getD μ k [])))
    by_cases hk : k < n
    · rw [if_pos hk]
      exact ⟨a, by rw [List.getElem?_take, if_pos hk]; exact ha, rfl⟩
    · rw [if_neg hk]
      have hl : k < μ.length := by rw [← m.len]; exact (List.getElem?_eq_some_iff.mp ha).1
      obtain ⟨vs, e, hd⟩ := m.cell k a μ[k] ha (by simp [hl])
      have e2 : μ.getD k [] = μ[k] := by simp [List.getD, hl]
      rw [e2]
      refine Dq.lst (dl_of (fun z => ?_) e) (dqAll_mono sub _ _ hd)
      rcases List.mem_append.mp z with z | z
      · obtain ⟨j, hj, ej⟩ := List.mem_take_iff_getElem.mp z
        obtain ⟨hkl, hke⟩ := List.getElem?_eq_some_iff.mp ha
        exact List.pairwise_iff_getElem.mp m.nd j k (by omega) hkl (by omega) (by rw [ej, hke])
      · exact m.out a z (List.mem_iff_getElem?.mpr ⟨k, ha⟩)
theorem Mem.cut {K : PySem.W.Frag} {H : Hp} {w : Wd} {μ : Sto} (m : Mem K H w μ) (n : Nat) : Mem K H (w.cut n) (μ.take n) := by
  have sub : Same (dl H w.all) (dl H (w.cut n).all) := dl_sub fun b hb => (List.mem_append.mp hb).elim (fun z => List.mem_append_left _ (List.mem_of_mem_take z)) fun z => List.mem_append_right _ z
  refine ⟨m.nd.sublist (List.take_sublist _ _), by simp [m.len], fun k a xs h1 h2 => ?_, fun b hb z => m.out b hb (List.mem_of_mem_take z), m.ext, m.tab⟩
  rw [List.getElem?_take] at h1 h2
  by_cases hk : k < n
  · rw [if_pos hk] at h1 h2
    obtain ⟨vs, e, hd⟩ := m.cell k a xs h1 h2
    exact ⟨vs, e, dqAll_mono sub _ _ hd⟩
  · rw [if_neg hk] at h1
    cases h1
section
variable {X : Cx} {W : WX} {n : Nat} {ρ ρ1 : REnv} {μ μ1 μ2 : Sto} {P : Out → Prop} {e c tg iter elt : Expr} {rest body orelse : List Stmt} {pos p' p2 : Pos} {x : Str} {r : Ent} {d : PyData} {ds out : List PyData}
noncomputable def thenP (X : Cx) (W : WX) (n : Nat) (rest : List Stmt) (P : Out → Prop) : Out → Prop
  | .nx ρ μ => ST X W n rest ρ μ P
  | o => P o
theorem ST.nil (h : P (.nx ρ μ)) : ST X W n [] ρ μ P := fun w σ H D hn m s q => ⟨_, pss_nil, by
  have := q _ h [] σ H (by rw [add_nil]; exact m) (by rw [add_nil]; exact s) .refl fun b hb => absurd hb (by simp)
  exact this⟩
theorem ST.set {i : Nat} (h : EV X e ρ μ r μ1) (hN : X.N.Nodup) (hi : X.N[i]? = some x) (hx : Loc X.env.scope x) (hr : ST X W n rest (ρ.set i (some r)) μ1 P) (hs : swapsWith e (some (.Name x p')) pos.line X.env = pure false := by rfl)
    (hf : X.fn x = true ∨ X.env.scope.names.lookup x = some .local := by first | exact .inl rfl | exact .inr rfl | assumption) : ST X W n (.Assign [.Name x p'] e pos :: rest) ρ μ P := by
  intro w σ H D hn m s q
  refine ⟨_, pss_cons (ps_set hN hi hx (p_ex (e := e)) hs hf) p_sx, ?_⟩
  refine h w σ H m s _ fun v H1 m1 f1 h1 => ?_
  exact hr w _ H1 D hn m1 ((s.fr f1).set h1) fun o ho => (q o ho).step hn f1
theorem new_cell {K : PySem.W.Frag} {H H1 : Hp} {w : Wd} {p : Addr} {vs : List V} {σ : L2.St} {i : Nat} (m : Mem K H w μ) (s : Sl K H w σ ρ) (m1 : Mem K H1 (wk' w p) μ1) (f1 : Fr w.α H H1) (hp : Nw H p) (e1 : H1 p = some (.lst vs)) (hd : DqAll (dl H1 (wk' w p).all) vs ds) :
    Mem K H1 (w.add [p]) (μ1 ++ [ds]) ∧ Sl K H1 (w.add [p]) (σ.set i (some (.ref p))) (ρ.set i (some (.ptr μ1.length))) := by
  have ha : p ∉ w.α := fun z => m.freshN hp (List.mem_append_left _ z)
  have all_eq : ∀ b, b ∈ (w.add [p]).all ↔ b ∈ (wk' w p).all := fun b => by
    rw [all_wk']
    simp only [Wd.all, List.mem_append, List.mem_cons, List.not_mem_nil, or_false]
    constructor
    · rintro ((h | h) | h)
      · exact .inr (.inl h)
      · exact .inl h
      · exact .inr (.inr h)
    · rintro (h | h | h)
      · exact .inl (.inr h)
      · exact .inl (.inl h)
      · exact .inr h
  have g : Same (dl H1 (wk' w p).all) (dl H1 (w.add [p]).all) := dl_sub fun b hb => (all_eq b).mp hb
  have len1 : w.α.length = μ1.length := m1.len
  have mm : Mem K H1 (w.add [p]) (μ1 ++ [ds]) := by
    refine ⟨List.nodup_append.mpr ⟨m.nd, by simp, fun a h b h' => by simp at h'; subst h'; exact fun z => ha (z ▸ h)⟩, by simp [len1], fun k a xs h1 h2 => ?_, fun b hb z => ?_, fun b hb => m1.ext b (List.mem_cons_of_mem _ hb), m1.tab⟩
    · by_cases hk : k < w.α.length
      · have h1' : w.α[k]? = some a := by rwa [List.getElem?_append_left hk] at h1
        have h2' : μ1[k]? = some xs := by rwa [List.getElem?_append_left (by omega)] at h2
        obtain ⟨us, e, hd'⟩ := m1.cell k a xs h1' h2'
        exact ⟨us, e, dqAll_mono g _ _ hd'⟩
      · rw [List.getElem?_append_right (by omega)] at h1 h2
        rw [len1] at h1
        cases hj : k - μ1.length with
        | zero =>
          rw [hj] at h1 h2
          simp at h1 h2
          subst h1
          subst h2
          exact ⟨vs, e1, dqAll_mono g _ _ hd⟩
        | succ j =>
          rw [hj] at h1
          simp at h1
    · rcases List.mem_append.mp z with z | z
      · exact m.out b hb z
      · obtain ⟨o, eo, po⟩ := m.ext b hb
        have : b = p := by simpa using z
        exact hp o (this ▸ eo) po.1
  refine ⟨mm, ?_⟩
  have s1 : Sl K H1 (w.add [p]) σ ρ := by
    have g2 : Same (dl H w.all) (dl H1 (w.add [p]).all) := (keep_outN (K := K) hp f1 ⟨_, e1⟩).trans g
    refine ⟨s.len, fun i r e => ?_⟩
    obtain ⟨v, a, b⟩ := s.at_ i r e
    refine ⟨v, a, ?_⟩
    cases r with
    | dat d => exact dq_mono g2 d v b
    | ptr k =>
      obtain ⟨a0, h0, h1⟩ := b
      exact ⟨a0, by rw [List.getElem?_append_left (List.getElem?_eq_some_iff.mp h0).1]; exact h0, h1⟩
    | obj C fs =>
      obtain ⟨x, dx, ws, e, hx, hn, hd⟩ := b
      exact ⟨x, dx, ws, e, g2 _ _ hx, hn, dqAll_mono g2 _ _ hd⟩
    | scr ns =>
      obtain ⟨a, e, hs⟩ := b
      exact ⟨a, e, Same.seq g2 hs⟩
    | raw u => exact b
    | exc a d fs =>
      obtain ⟨e, ws, hx, hn, hd⟩ := b
      exact ⟨e, ws, g2 _ _ hx, hn, dqAll_mono g2 _ _ hd⟩
  refine s1.set ⟨p, ?_, rfl⟩
  rw [List.getElem?_append_right (by omega), len1]
  simp
theorem ST.cell {i : Nat} (h : EVF X e ρ μ ds μ1) (hN : X.N.Nodup) (hi : X.N[i]? = some x) (hx : Loc X.env.scope x) (hr : ST X W n rest (ρ.set i (some (.ptr μ1.length))) (μ1 ++ [ds]) P) (hs : swapsWith e (some (.Name x p')) pos.line X.env = pure false := by rfl)
    (hf : X.fn x = true ∨ X.env.scope.names.lookup x = some .local := by first | exact .inl rfl | exact .inr rfl | assumption) : ST X W n (.Assign [.Name x p'] e pos :: rest) ρ μ P := by
  intro w σ H D hn m s q
  refine ⟨_, pss_cons (ps_set hN hi hx (p_ex (e := e)) hs hf) p_sx, ?_⟩
  refine h w σ H m s _ fun p H1 vs m1 f1 hp e1 hd => ?_
  obtain ⟨mm, ss⟩ := new_cell (i := i) m s m1 f1 hp e1 hd
  exact hr (w.add [p]) _ H1 D (by simp; omega) mm ss fun o ho => Fin.grow (q o ho) hn f1 fun b hb => by
    have : b = p := by simpa using hb
    rw [this]; exact hp
theorem ST.lc {i : Nat} {ifs : List Expr} {scope : Scope} {own : List (Str × Nat)} {lpos : Pos} (h : LCV X elt tg iter ifs scope own ρ μ out μ1) (hc : X.calm = true) (hN : X.N.Nodup) (hi : X.N[i]? = some x) (hx : X.env.scope.names.lookup x = some .local) (ok : BlkOk X.N X.env.scope scope own)
    (hr : ST X W n rest (ρ.set i (some (Ls out))) μ1 P) (hsw : swapsWith (.ListComp elt [⟨tg, iter, ifs, 0⟩] scope lpos) (some (.Name x p')) pos.line X.env = pure true) (hst : ∀ x, foldedSetIterable iter X.env x = pure x := by intro _; rfl) :
    ST X W n (.Assign [.Name x p'] (.ListComp elt [⟨tg, iter, ifs, 0⟩] scope lpos) pos :: rest) ρ μ P := by
  intro w σ H D hn m s q
  refine ⟨_, pss_cons (ps_setLc (i := i) hc hN hi hx hsw (p_ix (tg := tg) (e := iter)) ok pg_C pts_C pe_C hst) p_sx, ?_⟩
  show tLc _ _ _ _ _ σ H fun v H1 => SX X rest D (σ.set i (some v)) H1
  refine h w σ H m s _ fun p H1 vs m1 f1 hp e1 hd => ?_
  have hv : Val X.K H1 w (.ref p) (Ls out) := Dq.lst (dl_of (m.freshN hp) e1) (dqAll_mono (dl_sub fun b hb => all_wk'.mpr (.inr hb)) _ _ hd)
  exact hr w _ H1 D hn m1.unkeep ((s.fr f1).set hv) fun o ho => (q o ho).step hn f1
theorem ST.asg {is : List Nat} (h : EV X e ρ μ (.dat d) μ1) (hg : GV X tg d ρ ρ1 is) (hr : ST X W n rest ρ1 μ1 P) (hs : swapsWithSole [tg] e pos.line X.env = pure false := by rfl) (hw : swappedStores [tg] e X.env = pure none := by rfl)
    (h1 : (assignEach [tg] X.env).map (·.2) = [assign tg X.env] := by rfl) : ST X W n (.Assign [tg] e pos :: rest) ρ μ P := by
  intro w σ H D hn m s q
  refine ⟨_, pss_cons (ps_asg (p_ex (e := e)) (p_gx (e := tg)) hs hw h1) p_sx, ?_⟩
  refine h w σ H m s _ fun v H1 m1 f1 hv => ?_
  refine hg w σ H1 μ1 v m1 (s.fr f1) hv _ fun σ1 s1 _ => ?_
  exact hr w _ H1 D hn m1 s1 fun o ho => (q o ho).step hn f1
theorem ST.par {i j : Nat} {x y : Str} {a b : Expr} {px py pt : Pos} {kt k2 pt2} {r1 r2 : Ent} (ha : AV X [a, b] ρ μ [r1, r2] μ1) (hN : X.N.Nodup) (hi : X.N[i]? = some x) (hj : X.N[j]? = some y) (hij : i ≠ j)
    (hx : X.env.scope.names.lookup x = some .local) (hy : X.env.scope.names.lookup y = some .local) (hr : ST X W n rest ((ρ.set i (some r1)).set j (some r2)) μ1 P)
    (hw : swappedStores [.Tuple [.Name x px, .Name y py] kt pt] (.Tuple [a, b] k2 pt2) X.env = pure (some [x, y])) (hc : X.calm = true := by rfl)
    (hs : swapsWithSole [.Tuple [.Name x px, .Name y py] kt pt] (.Tuple [a, b] k2 pt2) pos.line X.env = pure false := by rfl) : ST X W n (.Assign [.Tuple [.Name x px, .Name y py] kt pt] (.Tuple [a, b] k2 pt2) pos :: rest) ρ μ P := by
  intro w σ H D hn m s q
  refine ⟨_, pss_cons (ps_par hc hN hi hj hij hx hy (p_ax (e := [a, b])) hw hs) p_sx, ?_⟩
  refine ha w σ H m s _ fun vs H1 m1 f1 hv => ?_
  obtain ⟨v1, us, rfl, h1, h2⟩ := hv.inv
  obtain ⟨v2, us, rfl, h3, h4⟩ := h2.inv
  obtain rfl := h4.inv0
  exact ⟨v1, v2, rfl, hr w _ H1 D hn m1 (((s.fr f1).set h1).set h3) fun o ho => (q o ho).step hn f1⟩
theorem ST.expr (h : EV X e ρ μ r μ1) (hr : ST X W n rest ρ μ1 P) (hs : swapsWith e none pos.line X.env = pure false := by rfl) : ST X W n (.Expr e pos :: rest) ρ μ P := by
  intro w σ H D hn m s q
  refine ⟨_, pss_cons (ps_expr (p_ex (e := e)) hs) p_sx, ?_⟩
  refine h w σ H m s _ fun v H1 m1 f1 hv => ?_
  exact hr w σ H1 D hn m1 (s.fr f1) fun o ho => (q o ho).step hn f1
theorem ST.ret (h : EV X e ρ μ r μ1) (hP : P (.ret (frz n μ1 r) (μ1.take n))) : ST X W n (.Return (some e) pos :: rest) ρ μ P := by
  intro w σ H D hn m s q
  refine ⟨_, pss_cons (ps_ret (p_ex (e := e))) pss_never, ?_⟩
  refine h w σ H m s _ fun v H1 m1 f1 hv => ?_
  exact q _ hP v H1 (m1.cut n) f1 (val_frz m1 hv)
theorem ST.iff {k : Bool} (h : TV X c ρ μ k μ1) (h1 : k = true → ST X W n body ρ μ1 (thenP X W n rest P)) (h2 : k = false → ST X W n orelse ρ μ1 (thenP X W n rest P)) : ST X W n (.If c body orelse pos :: rest) ρ μ P := by
  intro w σ H D hn m s q
  refine ⟨_, pss_cons (ps_if (p_tx (e := c)) p_sx p_sx) p_sx, ?_⟩
  refine h w σ H m s _ fun H1 m1 f1 => ?_
  have fin : ∀ o, thenP X W n rest P o → Fin X W n w H1 { D with nx := SX X rest D } o := by
    intro o ho
    cases o with
    | nx ρ' μ' =>
      intro β σ' H2 m2 s2 f2 hb
      refine ho (w.add β) σ' H2 D (by simp; omega) m2 s2 fun o ho => ?_
      exact Fin.grow (β := β) ((q o ho).step hn f1) hn f2 hb
    | ret r μ' => exact (Fin.step (o := .ret r μ') (q _ ho) hn f1 : Fin X W n w H1 D (.ret r μ'))
    | brk ρ' μ' => exact (Fin.step (o := .brk ρ' μ') (q _ ho) hn f1 : Fin X W n w H1 D (.brk ρ' μ'))
    | ct ρ' μ' => exact (Fin.step (o := .ct ρ' μ') (q _ ho) hn f1 : Fin X W n w H1 D (.ct ρ' μ'))
    | rse ρ' μ' C fs => exact (Fin.step (o := .rse ρ' μ' C fs) (q _ ho) hn f1 : Fin X W n w H1 D (.rse ρ' μ' C fs))
  cases k with
  | true => exact iteT (h1 rfl w σ H1 _ hn m1 (s.fr f1) fin)
  | false => exact iteF (h2 rfl w σ H1 _ hn m1 (s.fr f1) fin)
theorem ST.mono {P' : Out → Prop} {sts : List Stmt} (h : ST X W n sts ρ μ P) (i : ∀ o, P o → P' o) : ST X W n sts ρ μ P' := fun w σ H D hn m s q => h w σ H D hn m s fun o ho => q o (i o ho)
theorem ST.for_ {is : List Nat} (hi : IV X tg iter ρ μ ds μ1) (Iv : Nat → REnv → Sto → Prop) (h0 : Iv 0 ρ μ1)
    (hs : ∀ (i : Nat) (d : PyData) (ρ : REnv) (μ : Sto), ds[i]? = some d → Iv i ρ μ → ∃ ρ', GV X tg d ρ ρ' is ∧ ST X W n body ρ' μ fun
      | .nx ρ μ => Iv (i + 1) ρ μ
      | .ct ρ μ => Iv (i + 1) ρ μ
      | .brk ρ μ => thenP X W n rest P (.nx ρ μ)
      | .ret r μ => P (.ret r μ)
      | .rse ρ μ C fs => P (.rse ρ μ C fs))
    (hd : ∀ ρ μ, Iv ds.length ρ μ → ST X W n rest ρ μ P) (hc : X.calm = true := by rfl) (hp : PassesOwn (model X.prog X.w) X.A X.env X.xe := by exact PassesOwn.never) (hst : ∀ x, foldedSetIterable iter X.env x = pure x := by intro _; rfl) : ST X W n (.For tg iter body [] pos :: rest) ρ μ P := by
  intro w σ H D hn m s q
  refine ⟨_, pss_cons (ps_for hp hc (p_ix (tg := tg) (e := iter)) (p_gx (e := tg)) (p_sx (e := body)) hst) (p_sx (e := rest)), ?_⟩
  refine hi w σ H m s _ fun J H1 m1 f1 wk => ?_
  refine ⟨fun i k σ' H' => k = ds.length - i ∧ i ≤ ds.length ∧ ∃ β ρ' μ', Iv i ρ' μ' ∧ Mem X.K H' (w.add β) μ' ∧ Sl X.K H' (w.add β) σ' ρ' ∧ Fr w.α H1 H' ∧ ∀ b ∈ β, Nw H1 b,
    ⟨ds.length, by simp, Nat.zero_le _, [], ρ, μ1, h0, by rw [add_nil]; exact m1, by rw [add_nil]; exact s.fr f1, .refl, fun b hb => absurd hb (by simp)⟩, ?_⟩
  rintro i k σ' H' ⟨rfl, hi', β, ρ', μ', iv, m2, s2, f2, hb⟩
  have g : Same (dl H1 w.all) H' := f2.all.trans dl_same
  have hn2 : n ≤ (w.add β).α.length := by simp; omega
  have grow : ∀ o, P o → Fin X W n (w.add β) H' D o := fun o ho => Fin.grow ((q o ho).step hn f1) hn f2 hb
  by_cases hlt : i < ds.length
  · obtain ⟨d, hdi⟩ : ∃ d, ds[i]? = some d := ⟨ds[i], by simp [hlt]⟩
    obtain ⟨go, yl⟩ := wk.go H' g i d hdi
    refine .inr ⟨go, fun σ3 H3 => ∃ β ρ' μ', Iv (i + 1) ρ' μ' ∧ Mem X.K H3 (w.add β) μ' ∧ Sl X.K H3 (w.add β) σ3 ρ' ∧ Fr w.α H1 H3 ∧ ∀ b ∈ β, Nw H1 b, fun σ3 H3 h => ⟨ds.length - (i + 1), by omega, rfl, hlt, h⟩, fun x H3 y3 => ?_⟩
    obtain ⟨s23, dx⟩ := yl x H3 y3
    have gT : Same (dl H1 w.all) (dl H' (w.add β).all) := fun b o e => by
      have nt := dl_nt e
      obtain ⟨n1, e1⟩ := dl_some e
      refine dl_of (fun z => ?_) (f2 b o e1 (fun z => n1 (List.mem_append_left _ z)) nt) nt
      rcases List.mem_append.mp z with z | z
      · rcases List.mem_append.mp z with z | z
        · exact n1 (List.mem_append_left _ z)
        · exact hb b z o e1 nt
      · exact n1 (List.mem_append_right _ z)
    have dx3 : Dq (dl H3 (w.add β).all) x d := dx _ gT fun b hb' => by
      rcases List.mem_append.mp hb' with z | z
      · obtain ⟨vs, e⟩ := m2.there z
        exact ⟨_, e⟩
      · exact m2.ex1 z
    have f23 : Fr (w.add β).α H' H3 := Fr.of_same s23
    obtain ⟨ρ3, hg, hbody⟩ := hs i d ρ' μ' hdi iv
    refine hg (w.add β) σ' H3 μ' x (m2.same s23) (s2.fr f23) dx3 _ fun σ4 s4 _ => ?_
    refine hbody (w.add β) σ4 H3 _ hn2 (m2.same s23) s4 fun o ho => ?_
    have go_on : ∀ ρ5 μ5, Iv (i + 1) ρ5 μ5 → Nx X (w.add β) H3 (fun _ σ3 H3 => ∃ β ρ' μ', Iv (i + 1) ρ' μ' ∧ Mem X.K H3 (w.add β) μ' ∧ Sl X.K H3 (w.add β) σ3 ρ' ∧ Fr w.α H1 H3 ∧ ∀ b ∈ β, Nw H1 b) ρ5 μ5 := by
      intro ρ5 μ5 iv5 β' σ5 H5 m5 s5 f5 hb5
      rw [wd_add_add] at m5 s5
      have f15 : Fr w.α H1 H5 := fun b o e nb nt => by
        refine f5 b o (s23 _ _ (f2 b o e nb nt)) (fun z => ?_) nt
        rcases List.mem_append.mp z with z | z
        · exact nb z
        · exact hb b z o e nt
      refine ⟨β ++ β', ρ5, μ5, iv5, m5, s5, f15, fun b hbb => ?_⟩
      rcases List.mem_append.mp hbb with z | z
      · exact hb b z
      · exact Nw.back (f2.trans (Fr.of_same s23)) (hb5 b z) fun y => (List.nodup_append.mp m5.nd).2.2 b y b (List.mem_append_right _ z) rfl
    cases o with
    | nx ρ5 μ5 => exact go_on ρ5 μ5 ho
    | ct ρ5 μ5 => exact go_on ρ5 μ5 ho
    | ret r μ5 => exact (Fin.step (grow _ ho) hn2 f23 : Fin X W n (w.add β) H3 D (.ret r μ5))
    | rse ρ5 μ5 C fs => exact (Fin.step (grow _ ho) hn2 f23 : Fin X W n (w.add β) H3 D (.rse ρ5 μ5 C fs))
    | brk ρ5 μ5 =>
      intro β' σ5 H5 m5 s5 f5 hb5
      exact ho ((w.add β).add β') σ5 H5 D (by simp; omega) m5 s5 fun o ho => Fin.grow (Fin.step (grow o ho) hn2 f23) hn2 f5 hb5
  · have ei : i = ds.length := by omega
    subst ei
    refine .inl ⟨wk.stop H' g, ?_⟩
    exact hd ρ' μ' iv (w.add β) σ' H' D hn2 m2 s2 grow
noncomputable def PostR (r : Ent) (μ : Sto) : Out → Prop
  | .ret r' μ' => r' = r ∧ μ' = μ
  | _ => False
noncomputable def Post (r : Ent) (μ : Sto) : Out → Prop
  | .ret r' μ' => r' = r ∧ μ' = μ
  | .nx _ μ' => r = Nn ∧ ∃ ν, μ' = μ ++ ν
  | _ => False
end
theorem sl_start {K : PySem.W.Frag} {H : Hp} {w : Wd} {N : List Str} {vs : List V} {rs : List Ent} (h : Vas K H w vs rs) (hl : rs.length ≤ N.length) : Sl K H w (L2.start N vs) (rs.map some ++ List.replicate (N.length - rs.length) none) := by
  have e := h.1
  refine ⟨by simp [L2.start, e]; try omega, fun i r hi => ?_⟩
  by_cases hk : i < rs.length
  · rw [List.getElem?_append_left (by simpa using hk), List.getElem?_map] at hi
    have hr : rs[i]? = some r := by
      cases q : rs[i]? with
      | none => rw [q] at hi; cases hi
      | some z => rw [q] at hi; simpa using hi
    have hv : i < vs.length := by omega
    refine ⟨vs[i], ?_, h.2 i vs[i] r (by simp [hv]) hr⟩
    unfold L2.start
    rw [List.getElem?_append_left (by simpa using hv), List.getElem?_map]
    simp [hv]
  · rw [List.getElem?_append_right (by simpa using Nat.le_of_not_lt hk)] at hi
    rw [List.getElem?_replicate] at hi
    split at hi <;> simp at hi
section
variable {w : World} {P : Program} {K : PySem.W.Frag} {base : Heap} {mg : Str → Option Value}
theorem Cal.mk' {x : Str} {st : Stmt} {f : Addr} {fd : FuncData} {N ps : List Str} {k : Nat} {C : List Ent → Sto → Ent → Sto → Prop} (F : Fun K x x st f fd) (hm : mg x = some (.ref f)) (Sc : FnScope N ps (defScope st)) (b : Binds K fd ps []) (hN : ps.length ≤ N.length) (hlen : ∀ rs μ r μ', C rs μ r μ' → μ'.length = μ.length)
    (body : ∀ (cdv : Value) (A : Around) (outer : List Env) (s : Shared) (H : Hp) (E : XK), Room k (A.deeper (envOfC x (defScope st) s.heap.objs.size f cdv)) → ∀ rs μ r μ', rs.length = ps.length → C rs μ r μ' →
      ST (cxOf CX0 P w K mg base N x (defScope st) f cdv A outer s H E).nox W0 μ.length (defBody st) (rs.map some ++ List.replicate (N.length - rs.length) none) μ (Post r μ')) : Cal P w K mg base x (k + 1) ps C := by
  refine ⟨f, fd, ?_, hm, F.kp, b⟩
  refine F.ok Sc (fun vs H Q E h => ?_) (fun cdv A outer s H vs Q E hr h => ?_)
  · obtain ⟨w0, μ, rs, r, μ', _, hv, hl, _⟩ := h
    rw [hv.1, hl]
  · obtain ⟨w0, μ, rs, r, μ', m, hv, hl, hC, q⟩ := h
    have hb := body cdv A outer s H E hr rs μ r μ' hl hC
    refine hb w0 _ H _ (Nat.le_of_eq m.len.symm) m (sl_start hv (by omega)) fun o ho => ?_
    have hw : w0.cut μ.length = w0 := by
      show (⟨w0.α.take μ.length, w0.ξ⟩ : Wd) = w0
      rw [← m.len, List.take_length]
    cases o with
    | ret r2 μ2 =>
      obtain ⟨rfl, rfl⟩ := ho
      intro v H' m' f hv'
      rw [hw] at m' hv'
      exact q v H' m' f hv'
    | nx ρ2 μ2 =>
      obtain ⟨rfl, ν, rfl⟩ := ho
      intro β σ' H' m' s' f hb
      have mc := m'.cut μ'.length
      have e : (w0.add β).cut μ'.length = w0 := by
        show (⟨(w0.α ++ β).take μ'.length, w0.ξ⟩ : Wd) = w0
        rw [hlen _ _ _ _ hC, ← m.len, List.take_left]
      rw [e, List.take_left] at mc
      exact q .non H' mc f Dq.non
    | brk ρ2 μ2 => exact False.elim ho
    | ct ρ2 μ2 => exact False.elim ho
    | rse ρ2 μ2 C fs => exact False.elim ho
end
end J
namespace J
open PySem PySem.Spec
open PyProof.Rows L2
structure Bt (mg : Str → Option Value) : Prop where
  len : mg "len" = none
  str : mg "str" = none
  int : mg "int" = none
  bool : mg "bool" = none
  range : mg "range" = none
  list : mg "list" = none
  tuple : mg "tuple" = none
  all : mg "all" = none
  any : mg "any" = none
  isinstance : mg "isinstance" = none
  enumerate : mg "enumerate" = none
  repr : mg "repr" = none
  abs : mg "abs" = none
  max : mg "max" = none
  min : mg "min" = none
  divmod : mg "divmod" = none
section
variable {X : Cx} {ρ : REnv} {μ μ1 μ2 μ3 : Sto} {x y z r : Ent} {a b c e o tg iter elt : Expr} {es : List Expr} {pos p2 p apos : Pos} {rs : List Ent} {ds out ys : List PyData} {d d2 : PyData} {i j : Int} {s t n : Str} {k l : Bool}
theorem nm (i : Nat) {n : Str} {r : Ent} (hN : X.N[i]? = some n := by rfl) (hv : Vis X.env.scope n := by first | exact Or.inl rfl | exact Or.inr (Or.inl rfl) | exact Or.inr (Or.inr rfl)) (h : ρ[i]? = some (some r) := by rfl) (hd : (n == ("__debug__" : Str)) = false := by decide) (hcd : (n == ("__classdict__" : Str)) = false := by decide) : EV X (.Name n pos) ρ μ r μ := EV.name hN hv h hd hcd
theorem gl {v : V} {u : Value} (hm : X.mg n = some u) (r : RelV v u) (hv : ∀ H, Dq H v d) (hg : Gl X n := by rfl) (hd : (n == ("__debug__" : Str)) = false := by decide) : EV X (.Name n pos) ρ μ (.dat d) μ := fun w σ H m s Q q => ⟨_, pe_glob hg hm r hd, q _ H m .refl (hv _)⟩
theorem oAdd (ha : EV X a ρ μ (Ii i) μ1) (hb : EV X b ρ μ1 (Ii j) μ2) : EV X (.BinOp a .Add b pos) ρ μ (Ii (i + j)) μ2 := ha.op op_add hb (r2_I0 fun _ => .int _)
theorem oSub (ha : EV X a ρ μ (Ii i) μ1) (hb : EV X b ρ μ1 (Ii j) μ2) : EV X (.BinOp a .Sub b pos) ρ μ (Ii (i - j)) μ2 := ha.op op_sub hb (r2_I0 fun _ => .int _)
theorem oMul (ha : EV X a ρ μ (Ii i) μ1) (hb : EV X b ρ μ1 (Ii j) μ2) (h : CMul i j) : EV X (.BinOp a .Mult b pos) ρ μ (Ii (i * j)) μ2 := ha.op op_mul hb (r2_I h fun _ => .int _)
theorem oMod (ha : EV X a ρ μ (Ii i) μ1) (hb : EV X b ρ μ1 (Ii j) μ2) (h : 0 < j) : EV X (.BinOp a .Mod b pos) ρ μ (Ii (i % j)) μ2 := ha.op op_mod hb (r2_I h fun _ => .int _)
theorem oDiv (ha : EV X a ρ μ (Ii i) μ1) (hb : EV X b ρ μ1 (Ii j) μ2) (h : CDiv i j) : EV X (.BinOp a .FloorDiv b pos) ρ μ (Ii (i / j)) μ2 := ha.op op_fdiv hb (r2_I h fun _ => .int _)
theorem oPow (ha : EV X a ρ μ (Ii i) μ1) (hb : EV X b ρ μ1 (Ii j) μ2) (h : CPow i j) : EV X (.BinOp a .Pow b pos) ρ μ (Ii (i ^ j.toNat)) μ2 := ha.op op_pow hb (r2_I h fun _ => .int _)
theorem oAddS (ha : EV X a ρ μ (Ss s) μ1) (hb : EV X b ρ μ1 (Ss t) μ2) (h : s.length + t.length ≤ sizeLine) : EV X (.BinOp a .Add b pos) ρ μ (Ss (s ++ t)) μ2 := ha.op op_add_str hb (r2_addS h)
theorem oCat (ha : EV X a ρ μ (Ls ds) μ1) (hb : EV X b ρ μ1 (Ls ys) μ2) (h : ds.length + ys.length ≤ sizeLine) : EV X (.BinOp a .Add b pos) ρ μ (Ls (ds ++ ys)) μ2 := ha.op op_cat hb (r2_cat h)
theorem oCatT (ha : EV X a ρ μ (Tp ds) μ1) (hb : EV X b ρ μ1 (Tp ys) μ2) (h : ds.length + ys.length ≤ sizeLine) : EV X (.BinOp a .Add b pos) ρ μ (Tp (ds ++ ys)) μ2 := ha.op op_catA hb (r2_catT h)
theorem cLt (ha : EV X a ρ μ (Ii i) μ1) (hb : EV X b ρ μ1 (Ii j) μ2) : EV X (.Compare a [.Lt] [b] pos) ρ μ (Bb (decide (i < j))) μ2 := ha.cmp op_lt (nomark _) hb (r2_I0 fun _ => .bl _)
theorem cGt (ha : EV X a ρ μ (Ii i) μ1) (hb : EV X b ρ μ1 (Ii j) μ2) : EV X (.Compare a [.Gt] [b] pos) ρ μ (Bb (decide (j < i))) μ2 := ha.cmp op_gt (nomark _) hb (r2_I0 fun _ => .bl _)
theorem tLt (ha : EV X a ρ μ (Ii i) μ1) (hb : EV X b ρ μ1 (Ii j) μ2) : TV X (.Compare a [.Lt] [b] pos) ρ μ (decide (i < j)) μ2 := TV.cmp op_lt (nomark _) ha hb (r2_I0 fun _ => .bl _)
theorem tLe (ha : EV X a ρ μ (Ii i) μ1) (hb : EV X b ρ μ1 (Ii j) μ2) : TV X (.Compare a [.LtE] [b] pos) ρ μ (decide (i ≤ j)) μ2 := TV.cmp op_le (nomark _) ha hb (r2_I0 fun _ => .bl _)
theorem tGt (ha : EV X a ρ μ (Ii i) μ1) (hb : EV X b ρ μ1 (Ii j) μ2) : TV X (.Compare a [.Gt] [b] pos) ρ μ (decide (j < i)) μ2 := TV.cmp op_gt (nomark _) ha hb (r2_I0 fun _ => .bl _)
theorem tGe (ha : EV X a ρ μ (Ii i) μ1) (hb : EV X b ρ μ1 (Ii j) μ2) : TV X (.Compare a [.GtE] [b] pos) ρ μ (decide (j ≤ i)) μ2 := TV.cmp op_ge (nomark _) ha hb (r2_I0 fun _ => .bl _)
theorem cEq (ha : EV X a ρ μ (.dat d) μ1) (hb : EV X b ρ μ1 (.dat d2) μ2) (h : likeD d d2 = true := by rfl) : EV X (.Compare a [.Eq] [b] pos) ρ μ (Bb (eqS d d2)) μ2 := ha.cmp op_eq (nomark _) hb (r2_eq h)
theorem tEq (ha : EV X a ρ μ (.dat d) μ1) (hb : EV X b ρ μ1 (.dat d2) μ2) (h : likeD d d2 = true := by rfl) : TV X (.Compare a [.Eq] [b] pos) ρ μ (eqS d d2) μ2 := TV.cmp op_eq (nomark _) ha hb (r2_eq h)
theorem tNe (ha : EV X a ρ μ (.dat d) μ1) (hb : EV X b ρ μ1 (.dat d2) μ2) (h : likeD d d2 = true := by rfl) : TV X (.Compare a [.NotEq] [b] pos) ρ μ (!eqS d d2) μ2 := TV.cmp op_ne (nomark _) ha hb (r2_ne h)
theorem tEqD (hu : X.A.units + 64 < cLine) (ha : EV X a ρ μ (.dat d) μ1) (hb : EV X b ρ μ1 (.dat d2) μ2) (h1 : SeqAt.shaped d = true) (h2 : SeqAt.shaped d2 = true) : TV X (.Compare a [.Eq] [b] pos) ρ μ (PyData.eqv d d2) μ2 := TV.cmp (op_eqD hu) (nomark _) ha hb (r2_eqD h1 h2)
theorem tNeD (hu : X.A.units + 64 < cLine) (ha : EV X a ρ μ (.dat d) μ1) (hb : EV X b ρ μ1 (.dat d2) μ2) (h1 : SeqAt.shaped d = true) (h2 : SeqAt.shaped d2 = true) : TV X (.Compare a [.NotEq] [b] pos) ρ μ (!PyData.eqv d d2) μ2 := TV.cmp (op_neD hu) (nomark _) ha hb (r2_neD h1 h2)
theorem cEqD (hu : X.A.units + 64 < cLine) (ha : EV X a ρ μ (.dat d) μ1) (hb : EV X b ρ μ1 (.dat d2) μ2) (h1 : SeqAt.shaped d = true) (h2 : SeqAt.shaped d2 = true) : EV X (.Compare a [.Eq] [b] pos) ρ μ (Bb (PyData.eqv d d2)) μ2 := ha.cmp (op_eqD hu) (nomark _) hb (r2_eqD h1 h2)
theorem cNotN {kk} (ha : EV X a ρ μ (.dat d) μ1) : EV X (.Compare a [.IsNot] [.Constant .none kk p2] pos) ρ μ (Bb (!isNone d)) μ1 := ha.cmp op_notN (nomark _) EV.non r2_notN
theorem tIsN {kk} (ha : EV X a ρ μ (.dat d) μ1) : TV X (.Compare a [.Is] [.Constant .none kk p2] pos) ρ μ (isNone d) μ1 := TV.cmp op_isN (nomark _) ha EV.non r2_isN
theorem tInL (ha : EV X a ρ μ (.dat d) μ1) (hb : EV X b ρ μ1 (Ls ds) μ2) (h1 : flatD d = true) (h2 : ds.all flatD = true) (hm : behindInMarks .In b = false := by rfl) : TV X (.Compare a [.In] [b] pos) ρ μ (inD d ds) μ2 := TV.cmp op_in_seq hm ha hb (r2_inL (neg := false) h1 h2)
theorem tInT (ha : EV X a ρ μ (.dat d) μ1) (hb : EV X b ρ μ1 (Tp ds) μ2) (h1 : flatD d = true) (h2 : ds.all flatD = true) (hm : behindInMarks .In b = false := by rfl) : TV X (.Compare a [.In] [b] pos) ρ μ (inD d ds) μ2 := TV.cmp op_in_seq hm ha hb (r2_inT (neg := false) h1 h2)
theorem tInC {n0 : Nat} (ha : EV X a ρ μ (.dat d) μ1) (hb : EV X b ρ μ1 (.ptr n0) μ2) (hn : μ2[n0]? = some ds) (h1 : flatD d = true) (h2 : ds.all flatD = true) (hm : behindInMarks .In b = false := by rfl) : TV X (.Compare a [.In] [b] pos) ρ μ (inD d ds) μ2 := TV.cmp op_in_seq hm ha hb (r2_inC (neg := false) hn h1 h2)
theorem tNiC {n0 : Nat} (ha : EV X a ρ μ (.dat d) μ1) (hb : EV X b ρ μ1 (.ptr n0) μ2) (hn : μ2[n0]? = some ds) (h1 : flatD d = true) (h2 : ds.all flatD = true) (hm : behindInMarks .NotIn b = false := by rfl) : TV X (.Compare a [.NotIn] [b] pos) ρ μ (!inD d ds) μ2 := TV.cmp op_notIn_seq hm ha hb (r2_inC (neg := true) hn h1 h2)
theorem tNiT (ha : EV X a ρ μ (.dat d) μ1) (hb : EV X b ρ μ1 (Tp ds) μ2) (h1 : flatD d = true) (h2 : ds.all flatD = true) (hm : behindInMarks .NotIn b = false := by rfl) : TV X (.Compare a [.NotIn] [b] pos) ρ μ (!inD d ds) μ2 := TV.cmp op_notIn_seq hm ha hb (r2_inT (neg := true) h1 h2)
theorem cInL (ha : EV X a ρ μ (.dat d) μ1) (hb : EV X b ρ μ1 (Ls ds) μ2) (h1 : flatD d = true) (h2 : ds.all flatD = true) (hm : behindInMarks .In b = false := by rfl) : EV X (.Compare a [.In] [b] pos) ρ μ (Bb (inD d ds)) μ2 := ha.cmp op_in_seq hm hb (r2_inL (neg := false) h1 h2)
theorem cInSign {c0 : Nat} (ha : EV X a ρ μ (Ss ⟨#[c0]⟩) μ1) (hb : EV X b ρ μ1 (Ss t) μ2) (hm : behindInMarks .In b = false := by rfl) : EV X (.Compare a [.In] [b] pos) ρ μ (Bb (decide (c0 ∈ t.cps.toList))) μ2 := ha.cmp op_in_sign hm hb r2_inSign
theorem r2_inDeep {K : PySem.W.Frag} (h1 : SeqAt.shaped d = true) (h2 : SeqAt.shaped (.list ds) = true) : R2V K (rInD K) (.dat d) (Ls ds) (Bb (ds.any fun z => PyData.eqv z d)) μ := r2v_pure fun w H v u m a b =>
  ⟨_, Dq.bl _, fun Q q => ⟨d, ds, Dq.dp dl_same _ _ a (SeqAt.canLay_of_shaped h1), Dq.dp dl_same _ _ b (SeqAt.canLay_of_shaped h2), h1, h2, q⟩⟩
theorem tInDeep (hu : X.A.units + 65 < cLine) (ha : EV X a ρ μ (.dat d) μ1) (hb : EV X b ρ μ1 (Ls ds) μ2) (h1 : SeqAt.shaped d = true) (h2 : SeqAt.shaped (.list ds) = true) (hm : behindInMarks .In b = false := by rfl) : TV X (.Compare a [.In] [b] pos) ρ μ (ds.any fun z => PyData.eqv z d) μ2 := TV.cmp (op_inD hu) hm ha hb (r2_inDeep h1 h2)
theorem tChainLe {op op' : CmpOp} {g g' : Int → Int → Bool} {i2 : Int} (ho : OpR X (compareOp op) (rI0 fun i j => .bl (g i j))) (ho' : OpR X (compareOp op') (rI0 fun i j => .bl (g' i j))) (ha : EV X a ρ μ (Ii i) μ1) (hb : EV X b ρ μ1 (Ii j) μ2) (hc : EV X c ρ μ2 (Ii i2) μ2)
    (hm : lastMarks [op, op'] [b, c] = false := by with_unfolding_all rfl) : TV X (.Compare a [op, op'] [b, c] pos) ρ μ (g i j && g' j i2) μ2 := by
  intro w σ H m s Q q
  refine ⟨_, pt_chain ho ho' (p_ex (e := a)) (p_ex (e := b)) (p_ex (e := c)) hm, ?_⟩
  refine ha w σ H m s _ fun v H1 m1 f1 h1 => ?_
  cases h1
  refine hb w σ H1 m1 (s.fr f1) _ fun v H2 m2 f2 h2 => ?_
  cases h2
  refine ⟨i, j, rfl, rfl, _, rfl, ?_⟩
  cases hk : g i j with
  | true =>
    refine iteT ?_
    refine hc w σ H2 m2 ((s.fr f1).fr f2) _ fun v H3 m3 f3 h3 => ?_
    cases h3
    refine ⟨j, i2, rfl, rfl, _, rfl, ?_⟩
    have := q H3 m3 ((f1.trans f2).trans f3)
    rwa [hk, Bool.true_and] at this
  | false =>
    refine iteF ⟨_, rfl, ?_⟩
    have := q H2 m2 (f1.trans f2)
    rwa [hk, Bool.false_and] at this
theorem bLenS (T : Bt X.mg) (ha : EV X a ρ μ (Ss s) μ1) (h : s.length ≤ sizeLine) (hg : Gl X "len" := by rfl) (hs : starEach [a] X.env = (false, eval a X.env) :: starEach [] X.env := by rfl) : EV X (.Call (.Name "len" p) [a] [] pos) ρ μ (Ii s.length) μ1 := EV.callB call_len_str T.len PySem.boot_len (AV.cons ha AV.nil hs) (cv_lenS h) hg (by decide) (by decide) hs (by rfl)
theorem bLenL (T : Bt X.mg) (ha : EV X a ρ μ (Ls ds) μ1) (hg : Gl X "len" := by rfl) (hs : starEach [a] X.env = (false, eval a X.env) :: starEach [] X.env := by rfl) : EV X (.Call (.Name "len" p) [a] [] pos) ρ μ (Ii ds.length) μ1 := EV.callB call_len_seq T.len PySem.boot_len (AV.cons ha AV.nil hs) cv_lenL hg (by decide) (by decide) hs (by rfl)
theorem bLenT (T : Bt X.mg) (ha : EV X a ρ μ (Tp ds) μ1) (hg : Gl X "len" := by rfl) (hs : starEach [a] X.env = (false, eval a X.env) :: starEach [] X.env := by rfl) : EV X (.Call (.Name "len" p) [a] [] pos) ρ μ (Ii ds.length) μ1 := EV.callB call_len_seq T.len PySem.boot_len (AV.cons ha AV.nil hs) cv_lenT hg (by decide) (by decide) hs (by rfl)
theorem bLenC {n0 : Nat} (T : Bt X.mg) (ha : EV X a ρ μ (.ptr n0) μ1) (hn : μ1[n0]? = some ds) (hg : Gl X "len" := by rfl) (hs : starEach [a] X.env = (false, eval a X.env) :: starEach [] X.env := by rfl) : EV X (.Call (.Name "len" p) [a] [] pos) ρ μ (Ii ds.length) μ1 := EV.callB call_len_seq T.len PySem.boot_len (AV.cons ha AV.nil hs) (cv_lenC hn) hg (by decide) (by decide) hs (by rfl)
theorem bLenScr {ns : List Int} (T : Bt X.mg) (ha : EV X a ρ μ (.scr ns) μ1) (hg : Gl X "len" := by rfl) (hs : starEach [a] X.env = (false, eval a X.env) :: starEach [] X.env := by rfl) : EV X (.Call (.Name "len" p) [a] [] pos) ρ μ (Ii ns.length) μ1 := EV.callB call_len_seq T.len PySem.boot_len (AV.cons ha AV.nil hs) cv_lenScr hg (by decide) (by decide) hs (by rfl)
theorem bStr (T : Bt X.mg) (ha : EV X a ρ μ (Ii i) μ1) (h : i.natAbs.log2 < 1920) (hg : Gl X "str" := by rfl) (hs : starEach [a] X.env = (false, eval a X.env) :: starEach [] X.env := by rfl) : EV X (.Call (.Name "str" p) [a] [] pos) ρ μ (Ss (toString i : String)) μ1 := EV.callTy call_str_int T.str (by decide +kernel) (AV.cons ha AV.nil hs) (cv_str h) hg (by decide) (by decide) hs (by rfl)
theorem bIntI (T : Bt X.mg) (ha : EV X a ρ μ (Ii i) μ1) (hg : Gl X "int" := by rfl) (hs : starEach [a] X.env = (false, eval a X.env) :: starEach [] X.env := by rfl) : EV X (.Call (.Name "int" p) [a] [] pos) ρ μ (Ii i) μ1 := EV.callTy call_int1 T.int (by decide +kernel) (AV.cons ha AV.nil hs) cv_int1 hg (by decide) (by decide) hs (by rfl)
theorem bIntS (T : Bt X.mg) (ha : EV X a ρ μ (Ss s) μ1) (h : PySem.intText? s = some i) (hl : s.length ≤ 640) (hg : Gl X "int" := by rfl) (hs : starEach [a] X.env = (false, eval a X.env) :: starEach [] X.env := by rfl) : EV X (.Call (.Name "int" p) [a] [] pos) ρ μ (Ii i) μ1 := EV.callTy call_int_str T.int (by decide +kernel) (AV.cons ha AV.nil hs) (cv_intS h hl) hg (by decide) (by decide) hs (by rfl)
theorem bAll {bs : List Bool} (T : Bt X.mg) (hc : X.calm = true) (ha : EV X a ρ μ (Ls (bs.map .bool)) μ1) (hg : Gl X "all" := by rfl) (hs : starEach [a] X.env = (false, eval a X.env) :: starEach [] X.env := by rfl) : EV X (.Call (.Name "all" p) [a] [] pos) ρ μ (Bb (bs.all id)) μ1 := EV.callB (cr_all hc) T.all (by decide +kernel) (AV.cons ha AV.nil hs) cv_all hg (by decide) (by decide) hs (by rfl)
theorem bAny {bs : List Bool} (T : Bt X.mg) (hc : X.calm = true) (ha : EV X a ρ μ (Ls (bs.map .bool)) μ1) (hg : Gl X "any" := by rfl) (hs : starEach [a] X.env = (false, eval a X.env) :: starEach [] X.env := by rfl) : EV X (.Call (.Name "any" p) [a] [] pos) ρ μ (Bb (bs.any id)) μ1 := EV.callB (cr_any hc) T.any (by decide +kernel) (AV.cons ha AV.nil hs) cv_any hg (by decide) (by decide) hs (by rfl)
theorem bTupL (T : Bt X.mg) (ha : EV X a ρ μ (Ls ds) μ1) (hg : Gl X "tuple" := by rfl) (hs : starEach [a] X.env = (false, eval a X.env) :: starEach [] X.env := by rfl) : EV X (.Call (.Name "tuple" p) [a] [] pos) ρ μ (Tp ds) μ1 := EV.callTy call_tuple_of T.tuple (by decide +kernel) (AV.cons ha AV.nil hs) cv_tupL hg (by decide) (by decide) hs (by rfl)
theorem bLstT (T : Bt X.mg) (ha : EV X a ρ μ (Tp ds) μ1) (hg : Gl X "list" := by rfl) (hs : starEach [a] X.env = (false, eval a X.env) :: starEach [] X.env := by rfl) : EV X (.Call (.Name "list" p) [a] [] pos) ρ μ (Ls ds) μ1 := EV.callTy call_list_of T.list (by decide +kernel) (AV.cons ha AV.nil hs) cv_lstT hg (by decide) (by decide) hs (by rfl)
theorem bAbs (T : Bt X.mg) (ha : EV X a ρ μ (Ii i) μ1) (hg : Gl X "abs" := by rfl) (hs : starEach [a] X.env = (false, eval a X.env) :: starEach [] X.env := by rfl) : EV X (.Call (.Name "abs" p) [a] [] pos) ρ μ (Ii (if i < 0 then -i else i)) μ1 := EV.callB call_abs T.abs (by decide +kernel) (AV.cons ha AV.nil hs) cv_abs hg (by decide) (by decide) hs (by rfl)
theorem isI (T : Bt X.mg) {T' : String} {n : Str} (ha : EV X a ρ μ (.dat d) μ1) (hk : kitB (tyD d) T' = some k) (hvT : bootBuiltins n = some (.type T')) (hmT : X.mg n = none) (hg : Gl X "isinstance" := by rfl) (hgT : Gl X n := by rfl) (hn : n ≠ "__name__" := by decide)
    (hdb : (n == ("__debug__" : Str)) = false := by decide)
    (he : starEach [a, .Name n p2] X.env = (false, eval a X.env) :: starEach [.Name n p2] X.env := by rfl) (he2 : starEach [.Name n p2] X.env = (false, eval (.Name n p2) X.env) :: starEach [] X.env := by rfl) (hpl : (backTo pos (starEach [.Name n p2] X.env)).any (·.1) = false := by rfl) (hob : isObj d = false := by first | rfl | assumption) :
    EV X (.Call (.Name "isinstance" p) [a, .Name n p2] [] pos) ρ μ (Bb k) μ1 := EV.isi ha hob hk T.isinstance hmT hvT hg hgT hn hdb he he2 hpl
theorem ixT (ha : EV X a ρ μ (Tp ds) μ1) (hb : EV X b ρ μ1 (Ii i) μ2) (h : atI ds i = some d) (hs : PlainIx b := by exact fun _ _ => rfl) : EV X (.Subscript a b pos) ρ μ (.dat d) μ2 := EV.ix ix_tup ha hb (r2_ixT h) hs
theorem ixL (ha : EV X a ρ μ (Ls ds) μ1) (hb : EV X b ρ μ1 (Ii i) μ2) (h : atI ds i = some d) (hs : PlainIx b := by exact fun _ _ => rfl) : EV X (.Subscript a b pos) ρ μ (.dat d) μ2 := EV.ix ix_list ha hb (r2_ixL h) hs
theorem ixC {n0 : Nat} (ha : EV X a ρ μ (.ptr n0) μ1) (hb : EV X b ρ μ1 (Ii i) μ2) (hn : μ2[n0]? = some ds) (h : atI ds i = some d) (hs : PlainIx b := by exact fun _ _ => rfl) : EV X (.Subscript a b pos) ρ μ (.dat d) μ2 := EV.ix ix_list ha hb (r2_ixC hn h) hs
theorem ixS {c0 : Nat} (ha : EV X a ρ μ (Ss s) μ1) (hb : EV X b ρ μ1 (Ii i) μ2) (hl : s.length ≤ sizeLine) (h : atI s.cps.toList i = some c0) (hs : PlainIx b := by exact fun _ _ => rfl) : EV X (.Subscript a b pos) ρ μ (Ss ⟨#[c0]⟩) μ2 := EV.ix ix_str ha hb (r2_ixS hl h) hs
end
end J
namespace J
open PySem PySem.Spec
open PyProof.Rows L2
noncomputable abbrev Con := List Ent → Sto → Ent → Sto → Prop
noncomputable def fn1 (pre : PyData → Prop) (f : PyData → PyData) : Con := fun rs μ r μ' => ∃ d, rs = [.dat d] ∧ pre d ∧ r = .dat (f d) ∧ μ' = μ
structure Df (K : PySem.W.Frag) (mg : Str → Option Value) (n : Str) (st : Stmt) : Prop where
  ex : ∃ f fd, Fun K n n st f fd ∧ mg n = some (.ref f)
section
variable {w : World} {P : Program} {K : PySem.W.Frag} {base : Heap} {mg : Str → Option Value}
theorem Df.calN {x : Str} {st : Stmt} {N ps : List Str} {k : Nat} {C : Con} (D : Df K mg x st) (Sc : FnScope N ps (defScope st))
    (hb : ∀ (kV doc pm : Value) (an : Option Addr) (cdv ct : Value) (us : List Value), us.length = ps.length → bindArgs (PySem.W.fnOf x x (defArgs st) (defBody st) (defScope st) .none kV doc pm an cdv ct) ⟨us, []⟩ = pure (ps.zip us))
    (hN : ps.length ≤ N.length) (hlen : ∀ rs μ r μ', C rs μ r μ' → μ'.length = μ.length)
    (body : ∀ (f : Addr) (cdv : Value) (A : Around) (outer : List Env) (s : Shared) (H : Hp) (E : XK), Room k (A.deeper (envOfC x (defScope st) s.heap.objs.size f cdv)) → ∀ rs μ r μ', C rs μ r μ' →
      ST (cxOf CX0 P w K mg base N x (defScope st) f cdv A outer s H E).nox W0 μ.length (defBody st) (rs.map some ++ List.replicate (N.length - rs.length) none) μ (Post r μ')) : Cal P w K mg base x (k + 1) ps C := by
  obtain ⟨f, fd, F, hm⟩ := D.ex
  exact Cal.mk' F hm Sc (F.binds hb) hN hlen fun cdv A outer s H E hr rs μ r μ' _ hC => body f cdv A outer s H E hr rs μ r μ' hC
theorem Df.cal {x : Str} {st : Stmt} {N ps : List Str} {k : Nat} {C : Con} (D : Df K mg x st) (Sc : FnScope N ps (defScope st))
    (hb : ∀ (kV doc pm : Value) (an : Option Addr) (cdv ct : Value) (us : List Value), us.length = ps.length → bindArgs (PySem.W.fnOf x x (defArgs st) (defBody st) (defScope st) .none kV doc pm an cdv ct) ⟨us, []⟩ = pure (ps.zip us))
    (hN : ps.length ≤ N.length) (hlen : ∀ rs μ r μ', C rs μ r μ' → μ'.length = μ.length)
    (body : ∀ (f : Addr) (cdv : Value) (A : Around) (outer : List Env) (s : Shared) (H : Hp) (E : XK), Room k (A.deeper (envOfC x (defScope st) s.heap.objs.size f cdv)) → ∀ rs μ r μ', C rs μ r μ' →
      ST (cxOf CX0 P w K mg base N x (defScope st) f cdv A outer s H E).nox W0 μ.length (defBody st) (rs.map some ++ List.replicate (N.length - rs.length) none) μ (PostR r μ')) : Cal P w K mg base x (k + 1) ps C :=
  D.calN Sc hb hN hlen fun f cdv A outer s H E hr rs μ r μ' hC => (body f cdv A outer s H E hr rs μ r μ' hC).mono fun o ho => by
    cases o with
    | ret r' ν => exact ho
    | nx ρ ν => exact False.elim ho
    | brk ρ ν => exact False.elim ho
    | ct ρ ν => exact False.elim ho
    | rse ρ ν C fs => exact False.elim ho
end
section
variable {X : Cx} {ρ : REnv} {μ μ1 μ2 μ3 : Sto} {n : Str} {i : Int} {s : Str} {pos : Pos}
theorem gI (h : ∃ t, X.mg n = some (.int i t)) (hg : Gl X n := by rfl) (hd : (n == ("__debug__" : Str)) = false := by decide) : EV X (.Name n pos) ρ μ (Ii i) μ := by
  obtain ⟨t, h⟩ := h
  exact gl (v := .int i) h ⟨t, rfl⟩ (fun _ => .int i) hg hd
theorem gS (h : ∃ t, X.mg n = some (.str s t)) (hg : Gl X n := by rfl) (hd : (n == ("__debug__" : Str)) = false := by decide) : EV X (.Name n pos) ρ μ (Ss s) μ := by
  obtain ⟨t, h⟩ := h
  exact gl (v := .str s) h ⟨t, rfl⟩ (fun _ => .str s) hg hd
end
section
variable {X : Cx} {W : WX} {ρ : REnv} {μ μ1 μ2 : Sto} {a b c e : Expr} {es rest : List Expr} {pos : Pos} {k l : Bool} {z : Ent} {n : Nat} {sts body orelse : List Stmt} {P : Out → Prop}
theorem WV.andP (h : TV X a ρ μ k μ) (h2 : WV X (.BoolOp .And (b :: es) pos) ρ μ l μ) : WV X (.BoolOp .And (a :: b :: es) pos) ρ μ (k && l) μ := by
  cases k with
  | true => exact WV.and h (fun z => by cases z) fun _ => by simpa using h2
  | false => exact WV.and h (fun _ => ⟨rfl, rfl⟩) fun z => by cases z
theorem WV.orP (h : TV X a ρ μ k μ) (h2 : WV X (.BoolOp .Or (b :: es) pos) ρ μ l μ) : WV X (.BoolOp .Or (a :: b :: es) pos) ρ μ (k || l) μ := by
  cases k with
  | false => exact WV.or h (fun z => by cases z) fun _ => by simpa using h2
  | true => exact WV.or h (fun _ => ⟨rfl, rfl⟩) fun z => by cases z
theorem WV.andD (h : TV X a ρ μ k μ) (h2 : k = true → WV X (.BoolOp .And (b :: es) pos) ρ μ l μ) : WV X (.BoolOp .And (a :: b :: es) pos) ρ μ (k && l) μ := by
  cases k with
  | true => exact WV.and h (fun z => by cases z) fun _ => by simpa using h2 rfl
  | false => exact WV.and h (fun _ => ⟨rfl, rfl⟩) fun z => by cases z
theorem EV.andD (h : EV X a ρ μ (Bb k) μ) (h2 : k = true → EV X (.BoolOp .And (b :: es) pos) ρ μ (Bb l) μ) : EV X (.BoolOp .And (a :: b :: es) pos) ρ μ (Bb (k && l)) μ := by
  cases k with
  | true => exact EV.and h (fun z => by cases z) fun _ => by simpa using h2 rfl
  | false => exact EV.and h (fun _ => ⟨rfl, rfl⟩) fun z => by cases z
theorem ST.ifR (h : TV X c ρ μ k μ1) (h1 : k = true → ST X W n body ρ μ1 P) (h2 : k = false → ST X W n sts ρ μ1 P) (hP : ∀ ρ μ, P (.nx ρ μ) → False := by exact fun _ _ z => z) : ST X W n (.If c body [] pos :: sts) ρ μ P := by
  refine ST.iff h (fun hk => (h1 hk).mono fun o ho => ?_) fun hk => ST.nil (h2 hk)
  cases o with
  | nx ρ' μ' => exact (hP _ _ ho).elim
  | ret r m => exact ho
  | brk ρ' m => exact ho
  | ct ρ' m => exact ho
  | rse ρ' m C fs => exact ho
theorem ST.ifNo (h : TV X c ρ μ k μ1) (hk : k = false) (h2 : ST X W n sts ρ μ1 P) : ST X W n (.If c body [] pos :: sts) ρ μ P := ST.iff h (fun z => by rw [hk] at z; cases z) fun _ => ST.nil h2
theorem ST.ifYes (h : TV X c ρ μ k μ1) (hk : k = true) (h1 : ST X W n body ρ μ1 P) (hP : ∀ ρ μ, P (.nx ρ μ) → False := by exact fun _ _ z => z) : ST X W n (.If c body [] pos :: sts) ρ μ P := ST.ifR h (fun _ => h1) (fun z => by rw [hk] at z; cases z) hP
theorem ST.retP {r : Ent} {r' : Ent} {ν : Sto} (h : EV X e ρ μ r' ν) (e1 : frz n ν r' = r) (e2 : ν.take n = μ2 := by simp) : ST X W n (.Return (some e) pos :: sts) ρ μ (PostR r μ2) := ST.ret h ⟨e1, e2⟩
end
noncomputable def isIntL : PyData → Bool
  | .bool _ => true
  | .int _ => true
  | _ => false
theorem kit_int_NoneType : kitB "NoneType" "int" = some false := by decide +kernel
theorem kit_int_bool : kitB "bool" "int" = some true := by decide +kernel
theorem kit_int_int : kitB "int" "int" = some true := by decide +kernel
theorem kit_int_str : kitB "str" "int" = some false := by decide +kernel
theorem kit_int_list : kitB "list" "int" = some false := by decide +kernel
theorem kit_int_tuple : kitB "tuple" "int" = some false := by decide +kernel
theorem kit_int_dict : kitB "dict" "int" = some false := by decide +kernel
theorem kit_int (d : PyData) : kitB (tyD d) "int" = some (isIntL d) := by
  cases d
  · exact kit_int_NoneType
  · exact kit_int_bool
  · exact kit_int_int
  · exact kit_int_str
  · exact kit_int_list
  · exact kit_int_tuple
  · exact kit_int_dict
noncomputable def isBoolL : PyData → Bool
  | .bool _ => true
  | _ => false
theorem kit_bool_NoneType : kitB "NoneType" "bool" = some false := by decide +kernel
theorem kit_bool_bool : kitB "bool" "bool" = some true := by decide +kernel
theorem kit_bool_int : kitB "int" "bool" = some false := by decide +kernel
theorem kit_bool_str : kitB "str" "bool" = some false := by decide +kernel
theorem kit_bool_list : kitB "list" "bool" = some false := by decide +kernel
theorem kit_bool_tuple : kitB "tuple" "bool" = some false := by decide +kernel
theorem kit_bool_dict : kitB "dict" "bool" = some false := by decide +kernel
theorem kit_bool (d : PyData) : kitB (tyD d) "bool" = some (isBoolL d) := by
  cases d
  · exact kit_bool_NoneType
  · exact kit_bool_bool
  · exact kit_bool_int
  · exact kit_bool_str
  · exact kit_bool_list
  · exact kit_bool_tuple
  · exact kit_bool_dict
noncomputable def isStrL : PyData → Bool
  | .str _ => true
  | _ => false
theorem kit_str_NoneType : kitB "NoneType" "str" = some false := by decide +kernel
theorem kit_str_bool : kitB "bool" "str" = some false := by decide +kernel
theorem kit_str_int : kitB "int" "str" = some false := by decide +kernel
theorem kit_str_str : kitB "str" "str" = some true := by decide +kernel
theorem kit_str_list : kitB "list" "str" = some false := by decide +kernel
theorem kit_str_tuple : kitB "tuple" "str" = some false := by decide +kernel
theorem kit_str_dict : kitB "dict" "str" = some false := by decide +kernel
theorem kit_str (d : PyData) : kitB (tyD d) "str" = some (isStrL d) := by
  cases d
  · exact kit_str_NoneType
  · exact kit_str_bool
  · exact kit_str_int
  · exact kit_str_str
  · exact kit_str_list
  · exact kit_str_tuple
  · exact kit_str_dict
noncomputable def isTupleL : PyData → Bool
  | .tuple _ => true
  | _ => false
theorem kit_tuple_NoneType : kitB "NoneType" "tuple" = some false := by decide +kernel
theorem kit_tuple_bool : kitB "bool" "tuple" = some false := by decide +kernel
theorem kit_tuple_int : kitB "int" "tuple" = some false := by decide +kernel
theorem kit_tuple_str : kitB "str" "tuple" = some false := by decide +kernel
theorem kit_tuple_list : kitB "list" "tuple" = some false := by decide +kernel
theorem kit_tuple_tuple : kitB "tuple" "tuple" = some true := by decide +kernel
theorem kit_tuple_dict : kitB "dict" "tuple" = some false := by decide +kernel
theorem kit_tuple (d : PyData) : kitB (tyD d) "tuple" = some (isTupleL d) := by
  cases d
  · exact kit_tuple_NoneType
  · exact kit_tuple_bool
  · exact kit_tuple_int
  · exact kit_tuple_str
  · exact kit_tuple_list
  · exact kit_tuple_tuple
  · exact kit_tuple_dict
section
variable {X : Cx} {W : WX} {ρ : REnv} {μ μ1 μ2 : Sto} {a b c e : Expr} {es rest : List Expr} {pos : Pos} {k l : Bool} {z : Ent} {n : Nat} {sts body orelse : List Stmt} {P : Out → Prop}
theorem WV.orT (h : TV X a ρ μ k μ1) (hk : k = true := by rfl) : WV X (.BoolOp .Or (a :: b :: es) pos) ρ μ true μ1 := WV.or h (fun _ => ⟨rfl, rfl⟩) fun z => by rw [hk] at z; cases z
theorem WV.orF (h : TV X a ρ μ k μ1) (h2 : WV X (.BoolOp .Or (b :: es) pos) ρ μ1 l μ2) (hk : k = false := by rfl) : WV X (.BoolOp .Or (a :: b :: es) pos) ρ μ l μ2 := WV.or h (fun z => by rw [hk] at z; cases z) fun _ => h2
theorem WV.andF (h : TV X a ρ μ k μ1) (hk : k = false := by rfl) : WV X (.BoolOp .And (a :: b :: es) pos) ρ μ false μ1 := WV.and h (fun _ => ⟨rfl, rfl⟩) fun z => by rw [hk] at z; cases z
theorem WV.andT (h : TV X a ρ μ k μ1) (h2 : WV X (.BoolOp .And (b :: es) pos) ρ μ1 l μ2) (hk : k = true := by rfl) : WV X (.BoolOp .And (a :: b :: es) pos) ρ μ l μ2 := WV.and h (fun z => by rw [hk] at z; cases z) fun _ => h2
theorem EV.andF (h : EV X a ρ μ (Bb k) μ1) (hk : k = false := by rfl) : EV X (.BoolOp .And (a :: b :: es) pos) ρ μ (Bb false) μ1 := EV.and h (fun _ => ⟨rfl, rfl⟩) fun z => by rw [hk] at z; cases z
theorem EV.andT (h : EV X a ρ μ (Bb k) μ1) (h2 : EV X (.BoolOp .And (b :: es) pos) ρ μ1 z μ2) (hk : k = true := by rfl) : EV X (.BoolOp .And (a :: b :: es) pos) ρ μ z μ2 := EV.and h (fun z => by rw [hk] at z; cases z) fun _ => h2
end
theorem sz {n : Nat} (h : n ≤ 1000000) : n ≤ sizeLine := Nat.le_trans h (by decide)
theorem sz2 {n : Nat} (h : n ≤ 1000000) : n + 2 ≤ sizeLine := Nat.le_trans (Nat.add_le_add_right h 2) (by decide)
theorem log_small {i : Int} (h : i.natAbs < 2 ^ 1000) : i.natAbs.log2 < 1920 := by
  by_cases hz : i.natAbs = 0
  · rw [hz]; decide
  · exact Nat.lt_of_lt_of_le ((Nat.log2_lt hz).mpr h) (by decide)
theorem at_nat {α : Type} {xs : List α} {i : Nat} {x : α} (h : xs[i]? = some x) : atI xs (i : Int) = some x := by
  have hl := (List.getElem?_eq_some_iff.mp h).1
  unfold atI ixN
  rw [if_pos (by omega), if_pos (by omega)]
  simpa using h
noncomputable def sgn1 (f : Nat → Bool) : PyData → PyData
  | .str s => .bool (f (s.cps.toList.headD 0))
  | d => d
theorem sgn1_map (f : Nat → Bool) (s : Str) : (strD s).map (sgn1 f) = (s.cps.toList.map f).map .bool := by
  unfold strD
  rw [List.map_map, List.map_map]
  exact List.map_congr_left fun c _ => rfl
end J
namespace J
open PySem PySem.Spec
open PyProof.Rows L2
theorem yes_if {σ : L2.St} {H : Hp} {A B : Hp → Prop} (h : A H) : tYes σ H (fun b H => if b = true then A H else B H) := by
  show (if true = true then A H else B H)
  rw [if_pos rfl]
  exact h
noncomputable def iC (X : Cx) (scope : Scope) (tg it : Expr) : TI := fun σ H R => ∀ s H0 C cl fp, IX (blkX X scope s H0 C cl fp) tg it σ H R
section
variable {X : Cx} {ρ : REnv} {μ μ1 : Sto} {tg iter tg1 iter1 elt : Expr} {pos : Pos} {ds : List PyData}
theorem pi_C {scope : Scope} (s : Shared) (H : Hp) (C : Addr) (cl : List (Str × Addr)) (fp : List Addr) : PI (X.blk s H scope (compEnvC scope cl C X.env) fp) tg1 iter1 (iC X scope tg1 iter1) :=
  ⟨fun pins s1 σ H1 Q I h => (p_ix (X := blkX X scope s H C cl fp) (tg := tg1) (e := iter1)).run pins s1 σ H1 Q I (h s H C cl fp)⟩
theorem wipe_wipe (vs : List Nat) (σ : L2.St) : wipe (wipe σ vs) vs = wipe σ vs := by
  have aux : ∀ (us : List Nat) (σ : L2.St), (∀ u ∈ us, u ∈ vs) → wipe (wipe σ us) vs = wipe σ vs := by
    intro us
    induction us with
    | nil => intro σ _; rfl
    | cons u us ih =>
      intro σ hu
      show wipe ((wipe σ us).set u none) vs = wipe σ vs
      rw [wipe_set _ _ _ _ (hu u List.mem_cons_self)]
      exact ih σ fun z hz => hu z (List.mem_cons_of_mem _ hz)
  exact aux vs σ fun u h => h
structure Mid (K : PySem.W.Frag) (w : Wd) (D : Addr) (H1 : Hp) (μ : Sto) (acc : List PyData) (H : Hp) : Prop where
  mem : Mem K H (wk' w D) μ
  keep : ∀ b o, H1 b = some o → b ∉ w.α → Nt o → H b = some o
  at_ : ∃ vs, H D = some (.lst vs) ∧ DqAll (dl H (wk' w D).all) vs acc
theorem Mid.fr {K : PySem.W.Frag} {w : Wd} {D : Addr} {H1 H H' : Hp} {acc : List PyData} (h : Mid K w D H1 μ acc H) (f : Fr w.α H H') (m : Mem K H' (wk' w D) μ) : Mid K w D H1 μ acc H' := by
  obtain ⟨vs, e, hd⟩ := h.at_
  exact ⟨m, fun b o e hb nt => f b o (h.keep b o e hb nt) hb nt, vs, f D _ e (h.mem.out D List.mem_cons_self) (fun q z => by cases z), dqAll_mono (Fr.all (w := wk' w D) f) _ _ hd⟩
theorem LCV2.evf {scope : Scope} {own : List (Str × Nat)} {vs1 : List Nat} (F : PyData → List PyData) (f : PyData → PyData → PyData) (hi : IV X tg iter ρ μ ds μ1) (hc : X.calm = true) (hN : X.N.Nodup) (ok : BlkOk X.N X.env.scope scope own) (hv : ∀ i ∈ vs1, i ∈ own.map (·.2))
    (hs : ∀ d ∈ ds, ∃ ρ', (∀ s H C cl fp, GV (blkX X scope s H C cl fp) tg d (wipeE ρ (own.map (·.2))) ρ' (own.map (·.2))) ∧ (∀ s H C cl fp, IV (blkX X scope s H C cl fp) tg1 iter1 ρ' μ1 (F d) μ1) ∧
      ∀ e ∈ F d, ∃ ρ2, (∀ s H C cl fp, GV (blkX X scope s H C cl fp) tg1 e (wipeE ρ' vs1) ρ2 vs1) ∧ ∀ s H C cl fp, EV (blkX X scope s H C cl fp) elt ρ2 μ1 (.dat (f d e)) μ1)
    (hl : ∀ n, ((ds.take n).flatMap fun d => (F d).map (f d)).length ≤ 100000) (hl2 : ∀ n, ∀ d ∈ ds, ∀ m, ((ds.take n).flatMap fun d => (F d).map (f d)).length + m ≤ 100000 ∨ (F d).length < m)
    (hst : ∀ x, foldedSetIterable iter X.env x = pure x := by intro _; rfl) (hst1 : ∀ env x, foldedSetIterable iter1 env x = pure x := by intro _ _; rfl) :
    EVF X (.ListComp elt [⟨tg, iter, [], 0⟩, ⟨tg1, iter1, [], 0⟩] scope pos) ρ μ (ds.flatMap fun d => (F d).map (f d)) μ1 := by
  intro w σ H m s Q q
  refine ⟨_, pe_lc2 hc hN (p_ix (tg := tg) (e := iter)) ok hv pg_C (fun _ _ _ _ _ => pts_nil) pi_C pg_C (fun _ _ _ _ _ => pts_nil) pe_C hst hst1, ?_⟩
  refine hi w σ H m s _ fun J H1 m1 f1 wk => ?_
  intro D hD
  have hD0 : Nw H D := Nw.back f1 (Nw.of hD) (m1.fresh hD)
  refine ⟨fun i n H2 => n = ds.length - i ∧ i ≤ ds.length ∧ Mid X.K w D H1 μ1 ((ds.take i).flatMap fun d => (F d).map (f d)) H2, ⟨ds.length, by simp, Nat.zero_le _, m1.keep hD, fun b o e hb _ => ?_, [], upd_same, by simpa using DqAll.nil⟩, ?_⟩
  · rw [upd_ne (ne_of_none e hD)]
    exact e
  rintro i n H2 ⟨rfl, hi', M2⟩
  obtain ⟨vs, e2, hd2⟩ := M2.at_
  have m2 := M2.mem
  have g12 : Same (dl H1 w.all) (dl H2 (wk' w D).all) := keep_out (K := X.K) hD M2.keep ⟨_, e2⟩
  have g12' : Same (dl H1 w.all) H2 := g12.trans dl_same
  by_cases hlt : i < ds.length
  · obtain ⟨d, hdi⟩ : ∃ d, ds[i]? = some d := ⟨ds[i], by simp [hlt]⟩
    have hdm : d ∈ ds := List.mem_iff_getElem?.mpr ⟨i, hdi⟩
    have tk : (ds.take (i + 1)).flatMap (fun d => (F d).map (f d)) = (ds.take i).flatMap (fun d => (F d).map (f d)) ++ (F d).map (f d) := by
      rw [List.take_succ, hdi]
      simp
    obtain ⟨go, yl⟩ := wk.go H2 g12' i d hdi
    refine .inr ⟨go, fun H' => Mid X.K w D H1 μ1 ((ds.take (i + 1)).flatMap fun d => (F d).map (f d)) H', fun H' h => ⟨ds.length - (i + 1), by omega, rfl, hlt, h⟩, fun x H3 y3 => ?_⟩
    obtain ⟨s23, dx⟩ := yl x H3 y3
    have dx3 : Dq (dl H3 (wk' w D).all) x d := dx _ g12 fun b hb => (all_wk'.mp hb).elim (fun z => z ▸ ⟨_, e2⟩) fun hb => (List.mem_append.mp hb).elim (fun z => (m2.there z).elim fun vs e => ⟨_, e⟩) fun z => m2.ex1 (List.mem_cons_of_mem _ z)
    have M3 : Mid X.K w D H1 μ1 _ H3 := M2.fr (Fr.of_same s23) (m2.same s23)
    have sl3 : Sl X.K H3 (wk' w D) (wipe σ (own.map (·.2))) (wipeE ρ (own.map (·.2))) := (sl_wipe ((s.fr f1).same2 g12) _).fr (w := wk' w D) (Fr.of_same s23)
    obtain ⟨ρ', hgv, hiv, hel⟩ := hs d hdm
    intro s' H0 C cl fp
    refine hgv s' H0 C cl fp _ _ H3 μ1 x M3.mem sl3 dx3 _ fun σ4 sl4 ew => ⟨ew.trans (wipe_wipe _ σ), ?_⟩
    refine yes_if ?_
    intro s' H0 C cl fp
    refine hiv s' H0 C cl fp (wk' w D) σ4 H3 M3.mem sl4 _ fun J1 H4 m4 f34 wk1 => ?_
    have M4 : Mid X.K w D H1 μ1 _ H4 := M3.fr f34 m4
    have sl44 : Sl X.K H4 (wk' w D) σ4 ρ' := sl4.fr f34
    refine ⟨fun j k H5 => k = (F d).length - j ∧ j ≤ (F d).length ∧ Mid X.K w D H1 μ1 ((ds.take i).flatMap (fun d => (F d).map (f d)) ++ ((F d).take j).map (f d)) H5 ∧ Fr w.α H4 (fun b => if b = D then H4 D else H5 b), ⟨(F d).length, by simp, Nat.zero_le _, by simpa using M4, fun b o e hb _ => ?_⟩, ?_⟩
    · by_cases z : b = D
      · subst z; simpa using e
      · simpa [z] using e
    rintro j k H5 ⟨rfl, hj', M5, f45⟩
    obtain ⟨us, e5, hd5⟩ := M5.at_
    have m5 := M5.mem
    have g45 : Same (dl H4 (wk' w D).all) (dl H5 (wk' w D).all) := fun b o hb => by
      have nt := dl_nt hb
      obtain ⟨n1, e1⟩ := dl_some hb
      have nD : b ≠ D := fun z => n1 (all_wk'.mpr (.inl z))
      have := f45 b o e1 (fun z => n1 (List.mem_append_left _ z)) nt
      have h2 : (if b = D then H4 D else H5 b) = some o := this
      rw [if_neg nD] at h2
      exact dl_of n1 h2 nt
    have sl5 : Sl X.K H5 (wk' w D) σ4 ρ' := sl44.same g45
    by_cases hjt : j < (F d).length
    · obtain ⟨e, hej⟩ : ∃ e, (F d)[j]? = some e := ⟨(F d)[j], by simp [hjt]⟩
      have hem : e ∈ F d := List.mem_iff_getElem?.mpr ⟨j, hej⟩
      obtain ⟨go1, yl1⟩ := wk1.go H5 (g45.trans dl_same) j e hej
      refine .inr ⟨go1, fun H' => Mid X.K w D H1 μ1 ((ds.take i).flatMap (fun d => (F d).map (f d)) ++ ((F d).take (j + 1)).map (f d)) H' ∧ Fr w.α H4 (fun b => if b = D then H4 D else H' b), fun H' h => ⟨(F d).length - (j + 1), by omega, rfl, hjt, h⟩, fun x1 H6 y6 => ?_⟩
      obtain ⟨s56, dx1⟩ := yl1 x1 H6 y6
      have dx6 : Dq (dl H6 (wk' w D).all) x1 e := dx1 _ g45 fun b hb => (all_wk'.mp hb).elim (fun z => z ▸ ⟨_, e5⟩) fun hb => (List.mem_append.mp hb).elim (fun z => (m5.there z).elim fun vs e => ⟨_, e⟩) fun z => m5.ex1 (List.mem_cons_of_mem _ z)
      have M6 : Mid X.K w D H1 μ1 _ H6 := M5.fr (Fr.of_same s56) (m5.same s56)
      have sl6 : Sl X.K H6 (wk' w D) (wipe σ4 vs1) (wipeE ρ' vs1) := (sl_wipe sl5 _).fr (w := wk' w D) (Fr.of_same s56)
      obtain ⟨ρ2, hg2, hev⟩ := hel e hem
      intro s' H0 C cl fp
      refine hg2 s' H0 C cl fp _ _ H6 μ1 x1 M6.mem sl6 dx6 _ fun σ7 sl7 ew1 => ⟨ew1.trans (wipe_wipe _ σ4), ?_⟩
      refine yes_if ?_
      intro s' H0 C cl fp
      refine hev s' H0 C cl fp (wk' w D) σ7 H6 M6.mem sl7 _ fun v H8 m8 f68 hv => ?_
      have M8 : Mid X.K w D H1 μ1 _ H8 := M6.fr f68 m8
      obtain ⟨us8, e8, hd8⟩ := M8.at_
      refine ⟨us8, e8, ?_, ⟨m8.outs, fun b o e hb nt => ?_, us8 ++ [v], upd_same, ?_⟩, fun b o e hb nt => ?_⟩
      · rw [dqAll_len hd8, List.length_append, List.length_map, List.length_take]
        rcases hl2 i d hdm (j + 1) with z | z
        · have : min j (F d).length = j := by omega
          rw [this]
          exact Nat.lt_of_lt_of_le (Nat.lt_of_succ_le z) (by decide)
        · omega
      · rw [upd_ne (ne_of_none e hD)]
        exact M8.keep b o e hb nt
      · have t2 : ((F d).take (j + 1)).map (f d) = ((F d).take j).map (f d) ++ [f d e] := by
          rw [List.take_succ, hej]
          simp
        rw [t2, ← List.append_assoc]
        exact dqAll_append (dqAll_mono same_outs _ _ hd8) (.cons (dq_mono same_outs _ _ hv) .nil)
      · by_cases z : b = D
        · subst z; simpa using e
        · simp only [z, if_false, upd_ne z]
          have := f45 b o e hb nt
          have h2 : (if b = D then H4 D else H5 b) = some o := this
          rw [if_neg z] at h2
          exact f68 b o (s56 _ _ h2) hb nt
    · have ej : j = (F d).length := by omega
      subst ej
      refine .inl ⟨wk1.stop H5 (g45.trans dl_same), ?_⟩
      rw [List.take_length] at M5
      show Mid X.K w D H1 μ1 _ H5
      rw [tk]
      exact M5
  · have ei : i = ds.length := by omega
    subst ei
    rw [List.take_length] at M2 hd2
    exact .inl ⟨wk.stop H2 g12', q D H2 vs m2 (f1.trans M2.keep) hD0 e2 hd2⟩
end
end J
namespace PySem
open Sem (wp)
open AutoSeq1 (wpAny_loadPart')
theorem jEnumNew (l : Addr) (items : Array Value) (n : Nat) (oc : Value) (dct : Option Addr) (sl : Array (Option Value)) :
    Meets (Builtin.«enumerate.__new__» ⟨[.type "enumerate", .ref l], []⟩) fun _ R s =>
      s.heap.get? l = some { cls := .type "tuple", dict := dct, data := .seq items n, slots := sl } ∧
      R (.ok (.ret (.ref (s.heap.push { cls := .type "tuple_iterator", data := .fields #[.ref l, .int 0 0] }).objs.size)))
        { s with heap := (s.heap.push { cls := .type "tuple_iterator", data := .fields #[.ref l, .int 0 0] }).push ({ cls := .type "enumerate", data := .fields #[.none, .bool false, .ref s.heap.objs.size, rawInt 0, .none, .none] } : Obj) } :=
  .of_wp fun prog w A R s hh => by
    obtain ⟨hp, gs, dr, tt, os⟩ := s
    obtain ⟨hl, hR⟩ := hh
    have hs1 := sub_enumerate
    have hT : Heap.IsTuple (Shared.heap ⟨hp, gs, dr, tt, os⟩) l items := ⟨_, hl, rfl, n, rfl⟩
    wp_walk using wpAny_loadPart' hl
    refine wpAny_stack_any fun _ => wpAny_pure ?_
    split
    · rename_i c _ _ _ _ _
      cases (c == Value.type "enumerate") <;> (wp_walk using wpAny_loadPart' hl, wpAny_pyIter_tuple hT; exact ⟨_, rfl, hR⟩)
    · wp_walk using wpAny_loadPart' hl, wpAny_pyIter_tuple hT
      exact ⟨_, rfl, hR⟩
section
variable {prog : Program} {w : World} {A : Around} {E : Value → Shared → Prop} {s : Shared}
theorem jEnumCall {l : Addr} {items : Array Value} {Q : Value → Shared → Prop} (hT : s.heap.IsTuple l items)
    (hq : ∀ g, IsEnum g (s.heap.objs.size + 1) s.heap.objs.size 0 .none → g.IsTupleIter s.heap.objs.size l 0 → (∀ b o, s.heap.get? b = some o → g.get? b = some o) → Q (.ref (s.heap.objs.size + 1)) { s with heap := g }) :
    wpAny (model prog w) A (call (.type "enumerate") [.ref l]) Q E s := by
  obtain ⟨⟨c, dct, dt, sl⟩, hl, hc, n, hd⟩ := hT
  obtain rfl : c = .type "tuple" := hc
  obtain rfl : dt = .seq items n := hd
  refine callType_new F.called_enumerate (by decide) (F.typeCall_enumerate_1 _) (F.newCall_enumerate_1 _) (fun ob => F.args_object_init_2 ob _) F.entry_enumerate_new (jEnumNew l items n .none dct sl) ⟨hl, ?_⟩
  have hz : (s.heap.push ({ cls := .type "tuple_iterator", data := .fields #[.ref l, .int 0 0] } : Obj)).objs.size = s.heap.objs.size + 1 := Heap.size_push ..
  show _ ∧ _
  rw [hz]
  have he := Heap.get?_push_size (s.heap.push ({ cls := .type "tuple_iterator", data := .fields #[.ref l, .int 0 0] } : Obj)) (o := { cls := .type "enumerate", data := .fields #[.none, .bool false, .ref s.heap.objs.size, rawInt 0, .none, .none] }) rfl
  rw [hz] at he
  exact ⟨⟨_, he, rfl⟩, hq _ he ⟨_, Heap.get?_push_of_some _ (Heap.get?_push_size _ rfl), rfl, rfl⟩ fun b o x => Heap.get?_push_of_some _ (Heap.get?_push_of_some _ x)⟩
end
end PySem
namespace J
open PySem PySem.Spec
open PyProof.Rows L2
noncomputable def ItT (K : PySem.W.Frag) (a : Addr) : It :=
  ⟨fun i H => ∃ (ys : List V) (y : V), SqT K H a ys ∧ ys[i]? = some y, fun i H v H' => ∃ T y, v = .ref T ∧ H T = none ∧ H' = upd H T (.tup [.int (i : Nat), y]) ∧ ∀ ys, SqT K H a ys → ys[i]? = some y, fun i H => ∃ ys : List V, SqT K H a ys ∧ ys.length = i⟩
theorem turn_enT {P : Program} {w : World} {K : PySem.W.Frag} {elts : List Expr} {kk : Nat} {tpos : Pos} (a e it : Addr) :
    Turn P w K (.Tuple elts kk tpos) (ItT K a) [e, it] e (fun i h => (∃ old, IsEnum h e it ((i : Nat) : Int) old) ∧ h.IsTupleIter it a i ∧ e ≠ it ∧ a ≠ it ∧ e ≠ a) := by
  refine ⟨by simp, fun i h st b hb => ?_, fun i h h' st k => ?_, ?_, ?_, fun A i s Q E st h => ?_⟩
  · obtain ⟨⟨old, he⟩, ⟨o, ho, hc, hd⟩, _⟩ := st
    rcases (by simpa using hb : b = e ∨ b = it) with rfl | rfl
    · exact ⟨_, he, fun v q => nomatch q⟩
    · exact ⟨o, ho, fun v q => by rw [hd] at q; cases q⟩
  · obtain ⟨⟨old, he⟩, hi, hne⟩ := st
    exact ⟨⟨old, k e (by simp) _ he⟩, hi.at fun o q => k it (by simp) o q, hne⟩
  · intro X hP hw hK hc i pins s σ H E I hf st hg
    subst hP hw hK
    obtain ⟨⟨old, he⟩, hit, hne, hai, hea⟩ := st
    obtain ⟨ys, y, hq, hy⟩ := hg
    obtain ⟨its, rv, tp, hz⟩ := I.tuple hq
    obtain ⟨u, hu, ru⟩ := rv.get hy
    have hel : e < s.heap.objs.size := Heap.lt_size he
    have hil : it < s.heap.objs.size := by
      obtain ⟨_, q, _⟩ := hit
      exact Heap.lt_size q
    have hlt : i < its.toArray.size := by
      have := (List.getElem?_eq_some_iff.mp hu).1
      simpa using this
    have D := Draws.tuple (prog := X.prog) (w := X.w) (A := X.A.in1) (I.ok.hd hc) it a hai its.toArray
    refine wpAny_pyNext_enum_itemD D he ⟨hit, tp⟩ hlt hne (by simp [hne, hea]) fun x h' tk hx ho hit' hT hsz hk => ?_
    have ex : x = u := by
      have h1 : its[i]? = some x := by simpa using hx
      rw [hu] at h1
      exact (Option.some.inj h1).symm
    subst ex
    refine ⟨_, rfl, wpAny_letOwnedTupleGo_enum (s := { s with heap := h', toks := tk + 1 }) ho fun h'' he' sb => ?_⟩
    have hT2 := (sb.2 _ (Nat.ne_of_gt hel)).trans hT
    have new : ObjOk X.prog X.w (upd H s.heap.objs.size (.tup [.int (i : Nat), y])) h'' s.heap.objs.size (.tup [.int (i : Nat), y]) :=
      ⟨by show 2 ≤ sizeLine; decide, [.int i tk, x], .cons ⟨_, rfl⟩ (.cons ru .nil), ⟨_, hT2, rfl, _, rfl⟩⟩
    have I1 : Inv X pins σ (upd H s.heap.objs.size (.tup [.int (i : Nat), y])) { s with heap := h'', toks := tk + 1 } :=
      I.turnedNew (ch := [e, it]) (fun b ob hb q => (sb.2 b fun z => hb (by simp [z])).trans (hk b ob (fun z => hb (by simp [z])) (fun z => hb (by simp [z])) q)) hf (Nat.le_refl _) new
    refine ⟨.ref s.heap.objs.size, _, I1, rfl, ⟨_, y, rfl, I.hok.fresh (Nat.le_refl _), rfl, fun zs hzs => by rw [I.tuple_inj hzs hq]; exact hy⟩, ⟨⟨x, ?_⟩, hit'.1.at fun o q => (sb.2 it (Ne.symm hne)).trans q, hne, hai, hea⟩, fun b hb => ?_⟩
    · have e1 : ((i + 1 : Nat) : Int) = (i : Int) + 1 := by omega
      rw [e1]
      exact he'
    · have hb' : b < s.heap.objs.size := by
        rcases (by simpa using hb : b = e ∨ b = it) with rfl | rfl
        · exact hel
        · exact hil
      rw [upd_ne (Nat.ne_of_lt hb')]
      exact (hf b hb).1
  · intro X hP hw hK hc i pins s σ H E I hf st hg
    subst hP hw hK
    obtain ⟨⟨old, he⟩, hit, hne, hai, hea⟩ := st
    obtain ⟨ys, hq, hy⟩ := hg
    obtain ⟨its, rv, tp, hz⟩ := I.tuple hq
    obtain ⟨f0, f1, f2, f3, f4, f5⟩ := hf it (by simp)
    have D := Draws.tuple (prog := X.prog) (w := X.w) (A := X.A.in1) (I.ok.hd hc) it a hai its.toArray
    have hn : its.toArray.size = i := by rw [List.size_toArray, ← rv.length, hy]
    refine wpAny_pyNext_enum_endD D he (by rw [hn]; exact ⟨hit, tp⟩) fun h' eb => ⟨rfl, I.turned (t' := s.toks) (fun b o hb q => eb b o hb q) f0 f1 f3 f4 f5⟩
  · obtain ⟨⟨_, he⟩, _⟩ := st
    exact wpAny_pyIter_enum he h
section
variable {X : Cx} {ρ : REnv} {μ μ1 : Sto} {e : Expr} {ds : List PyData} {p pos tpos : Pos} {elts : List Expr} {kk : Nat}
noncomputable def iEnT (K : PySem.W.Frag) (ta : TA) : TI := fun σ H R => ta σ H fun vs H1 => ∃ a xs, vs = [.ref a] ∧ SqT K H1 a xs ∧ R (ItT K a) H1
theorem pi_enT {ta : TA} (hg : Gl X "enumerate") (hm : X.mg "enumerate" = none) (ha : PA X [e] ta) (hs : starEach [e] X.env = [(false, eval e X.env)]) : PI X (.Tuple elts kk tpos) (.Call (.Name "enumerate" p) [e] [] pos) (iEnT X.K ta) := by
  refine ⟨fun pins s σ H R I h => ?_⟩
  refine Call_ (ld_blt I hg hm boot_enumerate (PyProof.Rows.callWith_type1 (thn (ha.run pos pins s σ H _ I h) fun us s1 hh => ?_) hs rfl))
  obtain ⟨vs, H1, I1, r1, a, xs, rfl, hq, q⟩ := hh
  obtain ⟨u, rfl, ru⟩ := vals1 r1
  obtain rfl : u = Value.ref a := ru
  obtain ⟨its, rv, tp, hz⟩ := I1.tuple hq
  have hal : a < s1.heap.objs.size := by
    obtain ⟨o, ho, _⟩ := tp
    exact Heap.lt_size ho
  refine jEnumCall (show s1.heap.IsTuple a its.toArray from tp) fun h' he hit hk => wpAny_pyIter_enum he ?_
  have I2 : Inv X pins σ H1 { s1 with heap := h' } := I1.kept (t' := s1.toks) hk
  refine ⟨s1.heap.objs.size + 1, [s1.heap.objs.size + 1, s1.heap.objs.size], _, _, H1, rfl, I2, turn_enT a (s1.heap.objs.size + 1) s1.heap.objs.size, ⟨⟨.none, he⟩, hit, Nat.succ_ne_self _, Nat.ne_of_lt hal, ?_⟩, fun b hb => ?_, q⟩
  · exact Ne.symm (Nat.ne_of_lt (Nat.lt_succ_of_lt hal))
  · have hle : s1.heap.objs.size ≤ b := by
      rcases (by simpa using hb : b = s1.heap.objs.size + 1 ∨ b = s1.heap.objs.size) with z | z
      · rw [z]; exact Nat.le_add_right _ _
      · rw [z]; exact Nat.le_refl _
    exact I1.fpOk hle (I1.hok.fresh hle)
theorem IV.enumT (h : EV X e ρ μ (Tp ds) μ1) (hm : X.mg "enumerate" = none) (hg : Gl X "enumerate" := by rfl) (hs : starEach [e] X.env = [(false, eval e X.env)] := by rfl) :
    IV X (.Tuple elts kk tpos) (.Call (.Name "enumerate" p) [e] [] pos) ρ μ (enD 0 ds) μ1 := by
  intro w σ H m s R q
  refine ⟨_, pi_enT hg hm (pa_cons (p_ex (e := e)) pa_nil hs) hs, ?_⟩
  refine h w σ H m s _ fun v H1 m1 f1 h1 => ?_
  cases h1 with
  | tup ha hd =>
    rename_i c vs
    refine ⟨_, _, rfl, SqT.of (dl_some ha).2, q _ H1 m1 f1 ⟨fun H2 st i d e => ?_, fun H2 st => ⟨vs, SqT.of (st _ _ ha), by rw [enD_len, dqAll_len hd]⟩⟩⟩
    obtain ⟨y, hy, rfl⟩ := enD_get e
    obtain ⟨u, hu, du⟩ := dqAll_get hd hy
    refine ⟨⟨vs, u, SqT.of (st _ _ ha), hu⟩, fun x H3 yy => ?_⟩
    obtain ⟨T0, x0, rfl, hT, rfl, hx⟩ := yy
    have e0 := hx vs (SqT.of (st _ _ ha))
    rw [hu] at e0
    cases e0
    refine ⟨Same.new hT, fun T st2 tr => ?_⟩
    have nT : T0 ∉ T := fun z => by
      obtain ⟨o, eo⟩ := tr T0 z
      rw [hT] at eo; cases eo
    have e1 : ((0 + i : Nat) : Int) = ((i : Nat) : Int) := by omega
    rw [e1]
    exact Dq.tup (dl_of nT upd_same) (.cons (.int _) (.cons (dq_mono (st2.trans (dl_new hT)) _ _ du) .nil))
end
end J
namespace J
open PySem PySem.Spec
open PyProof.Rows L2
theorem u65 {k : Nat} {A : Around} (r : Room k A) : A.units + 65 < cLine := by
  have := r.un
  omega
section
variable {X : Cx} {ρ : REnv} {μ μ1 μ2 μ3 : Sto} {x y z r : Ent} {a b c e o : Expr} {es : List Expr} {pos p2 p apos cpos : Pos} {rs : List Ent} {ds out ys : List PyData} {d d2 : PyData} {i j : Int} {s t n : Str} {n0 : Nat}
theorem EV.slC {lo hi : Option Expr} {l h : Option Int} (ha : EV X a ρ μ (.ptr n0) μ1) (hl : PartV X lo ρ μ1 l μ2) (hh : PartV X hi ρ μ2 h μ3) (hn : μ3[n0]? = some ds) : EV X (.Subscript a (.Slice lo hi none p2) pos) ρ μ (Ls (cutD ds l h)) μ3 := by
  intro w σ H m s Q q
  refine ⟨_, pe_slice sl_list (p_ex (e := a)) (p_ox (e := lo)) (p_ox (e := hi)), ?_⟩
  refine ha w σ H m s _ fun v H1 m1 f1 h1 => ?_
  refine hl w σ H1 m1 (s.fr f1) _ fun H2 m2 f2 => ?_
  refine hh w σ H2 m2 ((s.fr f1).fr f2) _ fun H3 m3 f3 => ?_
  obtain ⟨a0, ha0, rfl⟩ := h1
  obtain ⟨vs, e, hd⟩ := m3.cell n0 a0 ds ha0 hn
  exact ⟨_, _, rfl, SqL.of e, new_lst m3 (dq_cut hd l h) fun v H4 m4 f4 h4 => q v H4 m4 (((f1.trans f2).trans f3).trans f4) h4⟩
theorem tNiL (ha : EV X a ρ μ (.dat d) μ1) (hb : EV X b ρ μ1 (Ls ds) μ2) (h1 : flatD d = true) (h2 : ds.all flatD = true) (hm : behindInMarks .NotIn b = false := by rfl) : TV X (.Compare a [.NotIn] [b] pos) ρ μ (!inD d ds) μ2 := TV.cmp op_notIn_seq hm ha hb (r2_inL (neg := true) h1 h2)
theorem Mem.put {K : PySem.W.Frag} {H : Hp} {w : Wd} {k : Nat} {a0 : Addr} {vs : List V} (m : Mem K H w μ) (ha : w.α[k]? = some a0) (hd : DqAll (dl H w.all) vs ds) : Mem K (upd H a0 (.lst vs)) w (μ.set k ds) ∧ Fr w.α H (upd H a0 (.lst vs)) := by
  have ham : a0 ∈ w.α := List.mem_iff_getElem?.mpr ⟨k, ha⟩
  have f : Fr w.α H (upd H a0 (.lst vs)) := fun b o e hb _ => by
    have nb : b ≠ a0 := fun z => hb (by rw [z]; exact ham)
    rw [upd_ne nb]
    exact e
  refine ⟨⟨m.nd, by simp [m.len], fun j b xs h1 h2 => ?_, m.out, fun b hb => ?_, tabs_upd m.tab fun u e => ?_⟩, f⟩
  · by_cases hj : k = j
    · subst hj
      rw [ha] at h1
      cases h1
      have hk : k < μ.length := by
        rw [← m.len]
        exact (List.getElem?_eq_some_iff.mp ha).1
      rw [List.getElem?_set] at h2
      simp [hk] at h2
      subst h2
      exact ⟨vs, upd_same, dqAll_mono f.all _ _ hd⟩
    · rw [List.getElem?_set_ne hj] at h2
      obtain ⟨us, e, hd'⟩ := m.cell j b xs h1 h2
      refine ⟨us, ?_, dqAll_mono f.all _ _ hd'⟩
      have nb : b ≠ a0 := fun z => by
        subst z
        obtain ⟨hj1, e1⟩ := List.getElem?_eq_some_iff.mp h1
        obtain ⟨hk1, e2⟩ := List.getElem?_eq_some_iff.mp ha
        rcases Nat.lt_or_gt_of_ne hj with hlt | hlt
        · exact List.pairwise_iff_getElem.mp m.nd k j hk1 hj1 hlt (by rw [e1, e2])
        · exact List.pairwise_iff_getElem.mp m.nd j k hj1 hk1 hlt (by rw [e1, e2])
      rw [upd_ne nb]
      exact e
  · obtain ⟨o, e, po⟩ := m.ext b hb
    have nb : b ≠ a0 := fun z => m.out b hb (by rw [z]; exact ham)
    exact ⟨o, by rw [upd_ne nb]; exact e, po⟩
  · obtain ⟨us, e1⟩ := m.there ham
    rw [e] at e1
    cases e1
    exact ⟨(fun q z => by cases z), (fun q z => by cases z)⟩
theorem EV.app {k : Nat} (ho : EV X o ρ μ (.ptr k) μ1) (he : EV X e ρ μ1 (.dat d) μ2) (hk : μ2[k]? = some ds) (hl : ds.length ≤ 1000) (hbase : attributeBase o "append" X.env (eval o X.env) = eval o X.env := by rfl)
    (hfew : ((backTo cpos (starEach [e] X.env)).all (fun x => !x.1) && (backToKw cpos (keywordEach [] X.env)).all (fun x => x.1.isSome) && decide ([e].length + ([] : List Keyword).length + (if ([] : List Keyword).isEmpty then 0 else 1) < 30)) = true := by rfl)
    (hline : (apos.endLine == cpos.line) = true := by rfl) (hs : starEach [e] X.env = (false, eval e X.env) :: starEach [] X.env := by rfl) (hp : (backTo cpos (starEach [] X.env)).any (·.1) = false := by rfl) : EV X (.Call (.Attribute o "append" apos) [e] [] cpos) ρ μ Nn (μ2.set k (ds ++ [d])) := by
  intro w σ H m s Q q
  refine ⟨_, pe_bm PySem.F.plainAttrs_list PySem.F.slot_list_append PySem.F.type_list_append mt_append (p_ex (e := o)) (pa_cons (p_ex (e := e)) pa_nil hs) hbase hfew hline hs hp, ?_⟩
  refine ho w σ H m s _ fun v H1 m1 f1 h1 => ?_
  obtain ⟨a0, ha0, rfl⟩ := h1
  have hk1 : k < μ1.length := by
    rw [← m1.len]
    exact (List.getElem?_eq_some_iff.mp ha0).1
  obtain ⟨us, e1, _⟩ := m1.cell k a0 μ1[k] ha0 (by simp [hk1])
  refine ⟨.inl ⟨rfl, us, SqL.of e1⟩, ?_⟩
  refine he w σ H1 m1 (s.fr f1) _ fun u H2 m2 f2 h2 => ?_
  obtain ⟨vs, e2, hd⟩ := m2.cell k a0 ds ha0 hk
  obtain ⟨mm, ff⟩ := m2.put (ds := ds ++ [d]) (vs := vs ++ [u]) ha0 (dqAll_append hd (.cons h2 .nil))
  exact ⟨a0, vs, u, rfl, rfl, e2, by rw [dqAll_len hd]; exact small1000 hl, q _ _ mm ((f1.trans f2).trans ff) Dq.non⟩
theorem EV.pop {k : Nat} {jn : Nat} (ho : EV X o ρ μ (.ptr k) μ1) (he : EV X e ρ μ1 (Ii (jn : Int)) μ2) (hk : μ2[k]? = some ds) (hj : ds[jn]? = some d) (hl : ds.length ≤ 1000) (hsi : seqIndex? (jn : Int) ds.length = some jn) (hbase : attributeBase o "pop" X.env (eval o X.env) = eval o X.env := by rfl)
    (hfew : ((backTo cpos (starEach [e] X.env)).all (fun x => !x.1) && (backToKw cpos (keywordEach [] X.env)).all (fun x => x.1.isSome) && decide ([e].length + ([] : List Keyword).length + (if ([] : List Keyword).isEmpty then 0 else 1) < 30)) = true := by rfl)
    (hline : (apos.endLine == cpos.line) = true := by rfl) (hs : starEach [e] X.env = (false, eval e X.env) :: starEach [] X.env := by rfl) (hp : (backTo cpos (starEach [] X.env)).any (·.1) = false := by rfl) : EV X (.Call (.Attribute o "pop" apos) [e] [] cpos) ρ μ (.dat d) (μ2.set k (ds.eraseIdx jn)) := by
  intro w σ H m s Q q
  refine ⟨_, pe_bm PySem.F.plainAttrs_list PySem.F.slot_list_pop PySem.F.type_list_pop mt_popAt (p_ex (e := o)) (pa_cons (p_ex (e := e)) pa_nil hs) hbase hfew hline hs hp, ?_⟩
  refine ho w σ H m s _ fun v H1 m1 f1 h1 => ?_
  obtain ⟨a0, ha0, rfl⟩ := h1
  have hk1 : k < μ1.length := by
    rw [← m1.len]
    exact (List.getElem?_eq_some_iff.mp ha0).1
  obtain ⟨us, e1, _⟩ := m1.cell k a0 μ1[k] ha0 (by simp [hk1])
  refine ⟨.inl ⟨rfl, us, SqL.of e1⟩, ?_⟩
  refine he w σ H1 m1 (s.fr f1) _ fun u H2 m2 f2 h2 => ?_
  cases h2
  obtain ⟨vs, e2, hd⟩ := m2.cell k a0 ds ha0 hk
  obtain ⟨y, hy, dy⟩ := dqAll_get hd hj
  have he' : DqAll (dl H2 w.all) (vs.eraseIdx jn) (ds.eraseIdx jn) := by
    rw [List.eraseIdx_eq_take_drop_succ, List.eraseIdx_eq_take_drop_succ]
    exact dqAll_append (dqAll_take _ hd) (dqAll_drop _ hd)
  obtain ⟨mm, ff⟩ := m2.put (ds := ds.eraseIdx jn) (vs := vs.eraseIdx jn) ha0 he'
  have hjl := (List.getElem?_eq_some_iff.mp hj).1
  exact ⟨a0, vs, (jn : Int), jn, y, rfl, rfl, e2, by omega, by omega, by rw [dqAll_len hd]; exact hsi, hy, q _ _ mm ((f1.trans f2).trans ff) (dq_mono ff.all _ _ dy)⟩
theorem AV.star {sp : Pos} (h : EV X e ρ μ (Tp ds) μ1) (hr : AV X es ρ μ1 rs μ2) (hs : starEach (.Starred e sp :: es) X.env = (true, eval e X.env) :: starEach es X.env := by rfl) : AV X (.Starred e sp :: es) ρ μ (dats ds ++ rs) μ2 := by
  intro w σ H m s Q q
  refine ⟨_, StX.pa_star (p_ex (e := e)) (p_ax (e := es)) hs, ?_⟩
  refine h w σ H m s _ fun v H1 m1 f1 h1 => ?_
  cases h1 with
  | tup ha hd =>
    rename_i a0 xs
    refine ⟨a0, xs, rfl, .inl (SqT.of (dl_some ha).2), ?_⟩
    refine hr w σ H1 m1 (s.fr f1) _ fun vs H2 m2 f2 h2 => ?_
    have hv : ∀ (xs : List V) (ds : List PyData), DqAll (dl H2 w.all) xs ds → Vas X.K H2 w (xs ++ vs) (dats ds ++ rs) := by
      intro xs
      induction xs with
      | nil => intro ds h; cases h; exact h2
      | cons x xs ih =>
        intro ds h
        cases h with
        | cons h1 h3 => exact .cons (r := .dat _) h1 (ih _ h3)
    exact q _ H2 m2 (f1.trans f2) (hv xs ds (dqAll_mono f2.all _ _ hd))
end
end J
namespace J
open PySem PySem.Spec
open PyProof.Rows L2
section
variable {w : World} {P : Program} {K : PySem.W.Frag} {base : Heap} {mg : Str → Option Value}
theorem fn_mk {x qual : Str} {st : Stmt} {f : Addr} {fd : FuncData} {N ps : List Str} {k : Nat} {C : Con} (F : Fun K x qual st f fd) (Sc : FnScope N ps (defScope st)) (hN : ps.length ≤ N.length) (hlen : ∀ rs μ r μ', C rs μ r μ' → rs.length = ps.length ∧ μ'.length = μ.length)
    (body : ∀ (cdv : Value) (A : Around) (outer : List Env) (s : Shared) (H : Hp) (E : XK), Room k (A.deeper (envOfC qual (defScope st) s.heap.objs.size f cdv)) → ∀ rs μ r μ', C rs μ r μ' →
      ST (cxOf CX0 P w K mg base N qual (defScope st) f cdv A outer s H E).nox W0 μ.length (defBody st) (rs.map some ++ List.replicate (N.length - rs.length) none) μ (PostR r μ')) : FnOk P w K mg base CX0 (k + 1) f fd ps (SpV K ps C) := by
  refine F.ok Sc (fun vs H Q E h => ?_) (fun cdv A outer s H vs Q E hr h => ?_)
  · obtain ⟨w0, μ, rs, r, μ', _, hv, hl, _⟩ := h
    rw [hv.1, hl]
  · obtain ⟨w0, μ, rs, r, μ', m, hv, hl, hC, q⟩ := h
    have hb := body cdv A outer s H E hr rs μ r μ' hC
    refine hb w0 _ H _ (Nat.le_of_eq m.len.symm) m (sl_start hv (by omega)) fun o ho => ?_
    have hw : w0.cut μ.length = w0 := by
      show (⟨w0.α.take μ.length, w0.ξ⟩ : Wd) = w0
      rw [← m.len, List.take_length]
    cases o with
    | ret r2 μ2 =>
      obtain ⟨rfl, rfl⟩ := ho
      intro v H' m' f hv'
      rw [hw] at m' hv'
      exact q v H' m' f hv'
    | nx ρ2 μ2 => exact False.elim ho
    | brk ρ2 μ2 => exact False.elim ho
    | ct ρ2 μ2 => exact False.elim ho
    | rse ρ2 μ2 C fs => exact False.elim ho
end
structure Prp (P : Program) (w : World) (K : PySem.W.Frag) (mg : Str → Option Value) (base : Heap) (C : Addr) (m : Str) (k : Nat) (c : Con) : Prop where
  ex : ∃ p f fd, FnOk P w K mg base CX0 k f fd ["self"] (SpV K ["self"] c) ∧ PropOf K C m p f ∧ Binds K fd ["self"] []
section
variable {X : Cx} {ρ : REnv} {μ μ1 μ2 μ3 : Sto} {x y z r : Ent} {a b c e o : Expr} {es : List Expr} {pos p2 p apos cpos : Pos} {rs : List Ent} {ds out ys : List PyData} {d d2 : PyData} {i j : Int} {s t n f m : Str} {C : Addr} {fs : List (Str × PyData)} {k : Nat} {ps : List Str} {cn : Con}
theorem lk_dq {H : Hp} : ∀ {ws : List (Str × V)} {fs : List (Str × PyData)}, ws.map (·.1) = fs.map (·.1) → DqAll H (ws.map (·.2)) (fs.map (·.2)) → fs.lookup f = some d → ∃ v, ws.lookup f = some v ∧ Dq H v d
  | [], fs, h1, h2, h3 => by
    cases fs with
    | nil => simp at h3
    | cons a as => simp at h1
  | (g, v) :: ws, [], h1, h2, h3 => by simp at h1
  | (g, v) :: ws, (g', e) :: fs, h1, h2, h3 => by
    simp at h1
    obtain ⟨rfl, h1⟩ := h1
    cases h2 with
    | cons ha hb =>
      rw [List.lookup_cons] at h3 ⊢
      cases hg : (f == g) with
      | true => rw [hg] at h3; cases h3; exact ⟨v, rfl, ha⟩
      | false => rw [hg] at h3; exact lk_dq h1 hb h3
theorem lk_none : ∀ {ws : List (Str × V)} {fs : List (Str × PyData)}, ws.map (·.1) = fs.map (·.1) → fs.lookup f = none → ws.lookup f = none
  | [], fs, h1, h3 => by simp
  | (g, v) :: ws, [], h1, h3 => by simp at h1
  | (g, v) :: ws, (g', e) :: fs, h1, h3 => by
    simp at h1
    obtain ⟨rfl, h1⟩ := h1
    rw [List.lookup_cons] at h3 ⊢
    cases hg : (f == g) with
    | true => rw [hg] at h3; cases h3
    | false => rw [hg] at h3; exact lk_none h1 h3
theorem EV.fld (ho : EV X o ρ μ (.obj C fs) μ1) (cl : Cls X.K C) (na : NoAttr X.K C f) (hl : fs.lookup f = some d) (hb : attributeBase o f X.env (eval o X.env) = eval o X.env := by rfl) : EV X (.Attribute o f pos) ρ μ (.dat d) μ1 := by
  intro w σ H m s Q q
  refine ⟨_, pe_fld (p_ex (e := o)) hb, ?_⟩
  refine ho w σ H m s _ fun v H1 m1 f1 h1 => ?_
  obtain ⟨x, dx, ws, rfl, hx, hn, hd⟩ := h1
  obtain ⟨u, hu, du⟩ := lk_dq hn hd hl
  exact ⟨x, C, dx, ws, u, rfl, (dl_some hx).2, cl, na, hu, q u H1 m1 f1 du⟩
theorem EV.prop (ho : EV X o ρ μ (.obj C fs) μ1) (cl : Cls X.K C) (hp : Prp X.prog X.w X.K X.mg X.base C f k cn) (hr : Room (k + 1) X.A) (hC : cn [.obj C fs] μ1 r μ2) (hb : attributeBase o f X.env (eval o X.env) = eval o X.env := by rfl) : EV X (.Attribute o f pos) ρ μ r μ2 := by
  intro w σ H m s Q q
  obtain ⟨p0, g, fd, F, po, bi⟩ := hp.ex
  refine ⟨_, pe_prop (E := E0) (p_ex (e := o)) cl po F hr bi .nil pass0 hb, ?_⟩
  refine ho w σ H m s _ fun v H1 m1 f1 h1 => ?_
  have h1' := h1
  obtain ⟨x, dx, ws, rfl, hx, hn, hd⟩ := h1
  exact ⟨x, dx, ws, rfl, (dl_some hx).2, w, μ1, _, r, μ2, m1, .cons h1' .nil, rfl, hC, fun v H' m2 f2 h2 => q v H' m2 (f1.trans f2) h2⟩
structure Own (P : Program) (w : World) (K : PySem.W.Frag) (mg : Str → Option Value) (base : Heap) (C : Addr) (m : Str) (k : Nat) (cn : Con) : Prop where
  ex : ∃ f fd, FnOk P w K mg base CX0 k f fd ["self"] (SpV K ["self"] cn) ∧ PySem.W.findIn K (.ref C) m = some (some (.ref f)) ∧ PySem.W.isFn K (.ref f) = true ∧ Binds K fd ["self"] []
theorem ins_at {pins : List (Addr × Obj)} {σ : L2.St} {H : Hp} {s : Shared} {x dx : Addr} {ws : List (Str × V)} (I : Inv X pins σ H s) (h : H x = some (.ins C dx ws)) : ∃ od, PySem.W.InstAt s.heap x (PySem.W.instObj C dx) C (some od) := by
  obtain ⟨mA, O, _, _, _, _⟩ := ins_get I.hok h
  obtain ⟨od, J, _⟩ := O.look
  exact ⟨od, J⟩
theorem own_run {A : Around} {pins : List (Addr × Obj)} {σ : L2.St} {H : Hp} {s : Shared} {g x : Addr} {fd : FuncData} {sp : Sp} {Q : VK} {R : Value → Shared → Prop} {E' : Value → Shared → Prop} (F : FnOk X.prog X.w X.K X.mg X.base CX0 k g fd ["self"] sp) (hr : Room k A) (hf : A.frames = some X.stack) (bi : Binds X.K fd ["self"] []) (I : Inv X pins σ H s)
    (h : sp [.ref x] H Q E0) (hR : ∀ u s', EP X pins σ Q u s' → R u s') : wpAny (model X.prog X.w) A (call (.ref g) [.ref x]) R E' s := by
  have e0 := I.env0
  have e1 : Env0 X.prog X.w X.K X.mg X.base A X.stack s H := ⟨hf, e0.mod, e0.bs, e0.bsz, e0.funs, e0.frf, e0.hok, e0.bare⟩
  refine wpAny_call (codeAny_mono (F.run A X.stack s H ⟨[.ref x], []⟩ [.ref x] [.ref x] Q E0 hr e1 (bi s [.ref x] I.kIn rfl) (.cons rfl .nil) h) fun rr s' hq => ?_)
  cases rr with
  | error er => exact False.elim hq
  | ok fl =>
    cases fl with
    | ret u => exact hR u s' (I.after hq)
    | next => exact False.elim hq
    | brk => exact False.elim hq
    | cont => exact False.elim hq
theorem EV.reprO (T : X.mg "repr" = none) (ho : EV X o ρ μ (.obj C fs) μ1) (hm : Own X.prog X.w X.K X.mg X.base C "__repr__" k cn) (hr : Room (k + 1) X.A) (hC : cn [.obj C fs] μ1 (Ss t) μ2) (hg : Gl X "repr" := by rfl) (hs : starEach [o] X.env = (false, eval o X.env) :: starEach [] X.env := by rfl) : EV X (.Call (.Name "repr" p) [o] [] pos) ρ μ (Ss t) μ2 := by
  intro w σ H m s Q q
  obtain ⟨g, fd, F, hfi, hfn, bi⟩ := hm.ex
  have cr : CallR X (.builtin "repr") (fun vs H Q => ∃ x dx ws, vs = [V.ref x] ∧ H x = some (.ins C dx ws) ∧ SpV X.K ["self"] cn [.ref x] H (fun v H' => ∃ z, v = .str z ∧ Q v H') E0) := by
    intro pins s σ H xs us Q I r h
    obtain ⟨x, dx, ws, rfl, hx, hsp⟩ := h
    obtain ⟨u, rfl, ru⟩ := vals1 r
    obtain rfl : u = Value.ref x := ru
    obtain ⟨od, J⟩ := ins_at I hx
    obtain ⟨mm, Fr0⟩ := I.fr
    refine PySem.W.repr_K (by have := hr.un; show X.A.units + 1 < cLine; omega) Fr0 I.mod.kin J hfi hfn (own_run F hr.in1 I.ok.frames bi I hsp fun u s' hq => ?_)
    obtain ⟨v, H', I', rv, z, rfl, hq⟩ := hq
    obtain ⟨tk, rfl⟩ := rv
    exact ⟨.str z, H', I', ⟨tk, rfl⟩, hq⟩
  refine ⟨_, pe_callB cr hg T (by decide +kernel) (pa_cons (p_ex (e := o)) pa_nil hs) (by decide) (by decide) hs (by rfl), ?_⟩
  refine ho w σ H m s _ fun v H1 m1 f1 h1 => ?_
  have h1' := h1
  obtain ⟨x, dx, ws, rfl, hx, hn, hd⟩ := h1
  refine ⟨x, dx, ws, rfl, (dl_some hx).2, w, μ1, _, Ss t, μ2, m1, .cons h1' .nil, rfl, hC, fun v H' m2 f2 h2 => ?_⟩
  have h2' := h2
  cases h2
  exact ⟨t, rfl, q _ H' m2 (f1.trans f2) h2'⟩
theorem EV.strO (T : X.mg "str" = none) (ho : EV X o ρ μ (.obj C fs) μ1) (hm : Own X.prog X.w X.K X.mg X.base C "__str__" k cn) (hr : Room (k + 2) X.A) (hC : cn [.obj C fs] μ1 (Ss t) μ2) (hg : Gl X "str" := by rfl) (hs : starEach [o] X.env = (false, eval o X.env) :: starEach [] X.env := by rfl) : EV X (.Call (.Name "str" p) [o] [] pos) ρ μ (Ss t) μ2 := by
  intro w σ H m s Q q
  obtain ⟨g, fd, F, hfi, hfn, bi⟩ := hm.ex
  have cr : CallR X (.type "str") (fun vs H Q => ∃ x dx ws, vs = [V.ref x] ∧ H x = some (.ins C dx ws) ∧ SpV X.K ["self"] cn [.ref x] H (fun v H' => ∃ z, v = .str z ∧ Q v H') E0) := by
    intro pins s σ H xs us Q I r h
    obtain ⟨x, dx, ws, rfl, hx, hsp⟩ := h
    obtain ⟨u, rfl, ru⟩ := vals1 r
    obtain rfl : u = Value.ref x := ru
    obtain ⟨od, J⟩ := ins_at I hx
    refine PySem.W.kso_call (by have := hr.un; show X.A.units + 1 + 1 < cLine; omega) I.kIn J hfi hfn (own_run F (Room.in1 (Room.in1 hr)) I.ok.frames bi I hsp fun u s' hq => ?_)
    obtain ⟨v, H', I', rv, z, rfl, hq⟩ := hq
    obtain ⟨tk, rfl⟩ := rv
    exact ⟨.str z, H', I', ⟨tk, rfl⟩, hq⟩
  refine ⟨_, pe_callTy cr hg T (by decide +kernel) (pa_cons (p_ex (e := o)) pa_nil hs) (by decide) (by decide) hs (by rfl), ?_⟩
  refine ho w σ H m s _ fun v H1 m1 f1 h1 => ?_
  have h1' := h1
  obtain ⟨x, dx, ws, rfl, hx, hn, hd⟩ := h1
  refine ⟨x, dx, ws, rfl, (dl_some hx).2, w, μ1, _, Ss t, μ2, m1, .cons h1' .nil, rfl, hC, fun v H' m2 f2 h2 => ?_⟩
  have h2' := h2
  cases h2
  exact ⟨t, rfl, q _ H' m2 (f1.trans f2) h2'⟩
noncomputable def spInit (K : PySem.W.Frag) (C : Addr) (f : Str) (G : List PyData → Prop) : Sp := fun vs H Q _ => ∃ x dx v w μ ps, vs = [.ref x, v] ∧ H x = some (.ins C dx []) ∧ x ∈ w.ξ ∧ Mem K H w μ ∧ Val K H w v (Tp ps) ∧ G ps ∧
  ∀ H1, Mem K H1 w μ → Fr w.α H H1 → Val K H1 w v (Tp ps) → Q .non (upd H1 x (.ins C dx [(f, v)]))
structure Mak (P : Program) (w : World) (K : PySem.W.Frag) (mg : Str → Option Value) (base : Heap) (n : Str) (C : Addr) (f : Str) (k : Nat) (ps : List Str) (G : List PyData → Prop) : Prop where
  ex : ∃ g fd, FnOk P w K mg base CX0 k g fd ps (spInit K C f G) ∧ Mk K C g ∧ mg n = some (.ref C) ∧ Binds K fd ps []
theorem make_end {K : PySem.W.Frag} {H H1 : Hp} {w : Wd} {xx dx : Addr} {v : V} {ps : List PyData} {Q : VK} (m : Mem K H w μ) (hx : H xx = none) (hdx : H dx = none) (hne : dx ≠ xx)
    (q : ∀ u H', Mem K H' w μ → Fr w.α H H' → Val K H' w u (.obj C [(f, .tuple ps)]) → Q u H') (m1 : Mem K H1 (wk' w xx) μ) (f1 : Fr w.α (upd (upd H dx (.own xx)) xx (.ins C dx [])) H1) (h1 : Val K H1 (wk' w xx) v (Tp ps)) : Q (.ref xx) (upd H1 xx (.ins C dx [(f, v)])) := by
  have hxa : xx ∉ w.all := m.freshA hx
  have f2 : Fr w.α H (upd H1 xx (.ins C dx [(f, v)])) := fun b o e nb nt => by
    have b1 : b ≠ xx := ne_of_none e hx
    have b2 : b ≠ dx := ne_of_none e hdx
    rw [upd_ne b1]
    exact f1 b o (by rw [upd_ne b1, upd_ne b2]; exact e) nb nt
  have g : Same (dl H1 (wk' w xx).all) (dl (upd H1 xx (.ins C dx [(f, v)])) w.all) := same_outs.trans (dl_sub fun b hb => all_wk'.mpr (.inr hb))
  exact q _ _ m1.outs.unkeep f2 ⟨xx, dx, [(f, v)], rfl, dl_of hxa upd_same, rfl, .cons (dq_mono g _ _ h1) .nil⟩
theorem make_mem {K : PySem.W.Frag} {H : Hp} {w : Wd} {xx dx : Addr} {o o' : HO} (m : Mem K H w μ) (hx : H xx = none) (hdx : H dx = none) (hne : dx ≠ xx) (po : Pl o := by exact ⟨(fun q z => by cases z), (fun q z => by cases z)⟩) : Mem K (upd (upd H dx o') xx o) (wk' w xx) μ :=
  (m.same (Same.new hdx)).keep (by rw [upd_ne (Ne.symm hne)]; exact hx) po
theorem make_val {K : PySem.W.Frag} {H : Hp} {w : Wd} {xx dx : Addr} {o o' : HO} {v : V} {ps : List PyData} (h : Val K H w v (Tp ps)) (hx : H xx = none) (hdx : H dx = none) : Val K (upd (upd H dx o') xx o) (wk' w xx) v (Tp ps) := by
  have hS : Same H (upd (upd H dx o') xx o) := fun b u e => by
    rw [upd_ne (ne_of_none e hx), upd_ne (ne_of_none e hdx)]
    exact e
  exact dq_mono (keep_out (K := K) hx (Fr.of_same hS) ⟨_, upd_same⟩) _ _ h
theorem EV.make {G : List PyData → Prop} {gs : List PyData} (M : Mak X.prog X.w X.K X.mg X.base n C f k ps G) (hr : Room (k + 1) X.A) (ha : EV X e ρ μ (Tp gs) μ1) (hG : G gs) (hg : Gl X n := by rfl) (hs : starEach [e] X.env = (false, eval e X.env) :: starEach [] X.env := by rfl) (hdb : (n == ("__debug__" : Str)) = false := by decide)
    (hpl : (backTo pos (starEach [] X.env)).any (·.1) = false := by rfl) : EV X (.Call (.Name n p) [e] [] pos) ρ μ (.obj C [(f, .tuple gs)]) μ1 := by
  intro w σ H m s Q q
  obtain ⟨g, fd, F, mk, hm, bi⟩ := M.ex
  refine ⟨_, pe_make (E := E0) mk F hr hg hm bi .nil pass0 (pa_cons (p_ex (e := e)) pa_nil hs) hdb hs hpl, ?_⟩
  refine ha w σ H m s _ fun v H1 m1 f1 h1 => ?_
  intro x dx hx hdx hne
  refine ⟨x, dx, v, wk' w x, μ1, gs, rfl, upd_same, List.mem_cons_self, make_mem m1 hx hdx hne, make_val h1 hx hdx, hG, fun H2 m2 f2 h2 => ⟨rfl, ?_⟩⟩
  exact make_end (Q := Q) (v := v) m1 hx hdx hne (fun u H' mm ff hh => q u H' mm (f1.trans ff) hh) m2 f2 h2
end
end J
namespace J
open PySem PySem.Spec
open PyProof.Rows L2
theorem use_evf {X : Cx} {e : Expr} {ρ : REnv} {μ μ' : Sto} {xs : List PyData} {w : Wd} {σ : L2.St} {H : Hp} {Q : VK} (h : EVF X e ρ μ xs μ') (m : Mem X.K H w μ) (s : Sl X.K H w σ ρ)
    (q : ∀ p H' vs, Mem X.K H' (wk' w p) μ' → Fr w.α H H' → Nw H p → H' p = some (.lst vs) → DqAll (dl H' (wk' w p).all) vs xs → Q (.ref p) H') : EX X e σ H Q := h w σ H m s Q q
theorem use_ev {X : Cx} {e : Expr} {ρ : REnv} {μ μ' : Sto} {r : Ent} {w : Wd} {σ : L2.St} {H : Hp} {Q : VK} (h : EV X e ρ μ r μ') (m : Mem X.K H w μ) (s : Sl X.K H w σ ρ) (q : ∀ v H', Mem X.K H' w μ' → Fr w.α H H' → Val X.K H' w v r → Q v H') : EX X e σ H Q := h w σ H m s Q q
section
variable {X : Cx}
theorem call_tupleF : CallR X (.type "tuple") (fun xs H Q => ∃ p ys, xs = [.ref p] ∧ SqL X.K H p ys ∧ ∀ l o, H l = none → o.cls = .type "tuple" → o.dict = none → Q (.ref l) (upd H l (.frz o (.tup ys)))) := by
  intro pins s σ H xs us Q I r h
  obtain ⟨p, ys, rfl, hq, q⟩ := h
  obtain ⟨u, rfl, rx⟩ := vals1 r
  obtain rfl : u = Value.ref p := rx
  obtain ⟨its, r2, pl, hz⟩ := I.list hq
  have hl := r2.length
  refine call_tuple_list pl.isList (fun g kp => ?_) (by simp only [List.size_toArray] <;> omega)
  have I1 : Inv X pins σ H { s with heap := g } := I.kept (t' := s.toks) kp
  have ho : (g.push ({ cls := .type "tuple", data := .seq its.toArray } : Obj)).get? g.objs.size = some { cls := .type "tuple", data := .seq its.toArray } := Heap.get?_push_size _ rfl
  have I2 : Inv X pins σ (upd H g.objs.size (.frz { cls := .type "tuple", data := .seq its.toArray } (.tup ys))) { s with heap := g.push { cls := .type "tuple", data := .seq its.toArray } } :=
    I1.laid (t' := s.toks) (fun b o e => Heap.get?_push_of_some _ e) (Nat.le_refl _) ⟨ho, hz, its, r2, IsTup.new _ _⟩
  exact ⟨.ref g.objs.size, _, I2, rfl, q _ _ (I1.hok.fresh (Nat.le_refl _)) rfl rfl⟩
noncomputable def tTix (r : V → List V → Hp → VK → Prop) (to te : TE) : TE := fun σ H Q => to σ H fun x H1 => (∃ p ob xs, x = .ref p ∧ H1 p = some (.frz ob (.tup xs)) ∧ ob.cls = .type "tuple" ∧ ob.dict = none) ∧ te σ H1 fun y H2 => r x [y] H2 Q
theorem pe_tix {id : String} {name : Str} {o e : Expr} {to te : TE} {r : V → List V → Hp → VK → Prop} {apos cpos : Pos} (slot : Slot "tuple" name id) (hty : typeOf (.builtin id) = pure (.type "method_descriptor")) (hm : MtR X id r) (ho : PE X o to) (he : PE X e te)
    (hbase : attributeBase o name X.env (eval o X.env) = eval o X.env := by rfl)
    (hfew : ((backTo cpos (starEach [e] X.env)).all (fun x => !x.1) && (backToKw cpos (keywordEach [] X.env)).all (fun x => x.1.isSome) && decide ([e].length + ([] : List Keyword).length + (if ([] : List Keyword).isEmpty then 0 else 1) < 30)) = true := by rfl)
    (hline : (apos.endLine == cpos.line) = true := by rfl) (hs : starEach [e] X.env = (false, eval e X.env) :: starEach [] X.env := by rfl) (hp : (backTo cpos (starEach [] X.env)).any (·.1) = false := by rfl) : PE X (.Call (.Attribute o name apos) [e] [] cpos) (tTix r to te) := by
  refine ⟨fun pins s σ H Q I h => ?_⟩
  refine wpAny_Call_method_late hbase hfew hline rfl (thn (ho.run pins s σ H _ I h) fun v s1 hh => ?_)
  obtain ⟨x, H1, I1, r1, ⟨p, ob, xs, rfl, hf, hc, hd⟩, q1⟩ := hh
  obtain rfl : v = Value.ref p := r1
  obtain ⟨g1, _⟩ : s1.heap.get? p = some ob ∧ _ := I1.hok p _ hf
  refine ⟨"tuple", id, PySem.F.plainAttrs_tuple, slot, hty, ⟨ob, g1, hc⟩, fun a ea => by cases ea; exact ⟨ob, g1, hd⟩, ?_⟩
  have hA := (pa_cons he pa_nil hs).run cpos pins s1 σ H1 (fun vs H2 => match vs with | [y] => r (.ref p) [y] H2 Q | _ => False) I1 q1
  rw [hs] at hA ⊢
  refine Calls.callWith_builtin (by show (false || (backTo cpos (starEach [] X.env)).any (·.1)) = false; rw [hp] <;> rfl) (Calls.evalArgs_plain ?_)
  refine thn hA fun us s2 hh => ?_
  obtain ⟨vs, H2, I2, r2, q2⟩ := hh
  match vs, r2, q2 with
  | [y], r2, q2 => exact hm pins s2 σ H2 (.ref p) [y] (.ref p) us Q I2 rfl r2 q2
end
end J
namespace J
open PySem PySem.Spec
open PyProof.Rows L2
section
variable {X : Cx} {W : WX} {ρ ρ1 ρ2 : REnv} {μ μ1 μ2 μ3 : Sto} {a b c e o : Expr} {es tgs : List Expr} {pos p2 p apos cpos : Pos} {ds out : List PyData} {d : PyData} {i j : Int} {s t n : Str} {tg : Expr} {P : Out → Prop} {nn : Nat} {rest : List Stmt}
theorem scr_at {ns : List Int} {i : Nat} {v : Int} (h : ns[i]? = some v) : atI (ns.map V.int) (i : Int) = some (V.int v) := at_nat (by rw [List.getElem?_map, h]; rfl)
theorem ixScr {ns : List Int} {i : Nat} {v : Int} (ha : EV X a ρ μ (.scr ns) μ1) (hb : EV X b ρ μ1 (Ii (i : Int)) μ2) (h : ns[i]? = some v) (hs : PlainIx b := by exact fun _ _ => rfl) : EV X (.Subscript a b pos) ρ μ (Ii v) μ2 := by
  refine EV.ix ix_list ha hb (fun w H x y m h1 h2 Q q => ?_) hs
  obtain ⟨p, rfl, hsq⟩ := h1
  cases h2
  exact ⟨p, _, _, _, rfl, rfl, Same.seq dl_same hsq, scr_at h, q _ _ m .refl (Dq.int _)⟩
noncomputable def GW (X : Cx) (tg : Expr) (d : PyData) (ρ : REnv) (μ : Sto) (ρ' : REnv) (μ' : Sto) : Prop :=
  ∀ w σ H v, Mem X.K H w μ → Sl X.K H w σ ρ → Val X.K H w v (.dat d) → ∀ Q : L2.St → Hp → Prop, (∀ σ' H', Mem X.K H' w μ' → Fr w.α H H' → Sl X.K H' w σ' ρ' → Q σ' H') → GX X tg v σ H Q
noncomputable def GsW (X : Cx) (tg : List Expr) (ds : List PyData) (ρ : REnv) (μ : Sto) (ρ' : REnv) (μ' : Sto) : Prop :=
  ∀ w σ H vs, Mem X.K H w μ → Sl X.K H w σ ρ → DqAll (dl H w.all) vs ds → ∀ Q : L2.St → Hp → Prop, (∀ σ' H', Mem X.K H' w μ' → Fr w.α H H' → Sl X.K H' w σ' ρ' → Q σ' H') → GsX X tg vs σ H Q
theorem GW.name {i : Nat} (hN : X.N.Nodup) (hi : X.N[i]? = some n) (hx : Loc X.env.scope n) (hf : X.fn n = true ∨ X.env.scope.names.lookup n = some .local := by first | exact .inl rfl | exact .inr rfl | assumption) : GW X (.Name n pos) d ρ μ (ρ.set i (some (.dat d))) μ := by
  intro w σ H v m s h Q q
  exact ⟨_, pg_name hN hi hx hf, q _ _ m .refl (s.set h)⟩
theorem GW.sub {k j : Nat} (ho : EV X o ρ μ (.ptr k) μ) (hi : EV X e ρ μ (Ii (j : Int)) μ) (hk : μ[k]? = some ds) (hj : j < ds.length)
    (hsub : ∀ v, assign (.Subscript o e pos) X.env v = (do
      let ov ← holding [v] (eval o X.env)
      let iv ← holding [v, ov] (eval e X.env)
      standAt pos
      holding [v, ov, iv] (setItem ov iv v)
      release [v, ov, iv] []) := by intro _; rfl) : GW X (.Subscript o e pos) d ρ μ ρ (μ.set k (ds.set j d)) := by
  intro w σ H v m s h Q q
  refine ⟨_, pg_sub (p_ex (e := o)) (p_ex (e := e)) set_list hsub, ?_⟩
  refine ho w σ H m s _ fun u H1 m1 f1 h1 => ?_
  obtain ⟨a0, ha0, rfl⟩ := h1
  refine hi w σ H1 m1 (s.fr f1) _ fun u H2 m2 f2 h2 => ?_
  cases h2
  obtain ⟨vs, e2, hd⟩ := m2.cell k a0 ds ha0 hk
  have hl := dqAll_len hd
  have hv2 : Dq (dl H2 w.all) v d := (h.fr f1).fr f2
  have hset : ∀ (vs : List V) (ds : List PyData) (j : Nat), DqAll (dl H2 w.all) vs ds → DqAll (dl H2 w.all) (vs.set j v) (ds.set j d) := by
    intro vs
    induction vs with
    | nil => intro ds j h; cases h; exact .nil
    | cons x xs ih =>
      intro ds j h
      cases h with
      | cons h1 h3 =>
        cases j with
        | zero => exact .cons hv2 h3
        | succ j => exact .cons h1 (ih _ j h3)
  obtain ⟨mm, ff⟩ := m2.put (ds := ds.set j d) (vs := vs.set j v) ha0 (hset vs ds j hd)
  refine ⟨a0, vs, (j : Int), j, rfl, rfl, e2, ?_, q σ _ mm ((f1.trans f2).trans ff) (((s.fr f1).fr f2).fr ff)⟩
  unfold ixN
  rw [if_pos (by omega), if_pos (by omega)]
  simp
theorem GsW.nil : GsW X [] [] ρ μ ρ μ := by
  intro w σ H vs m s h Q q
  cases h
  exact ⟨_, pgs_nil, rfl, q σ H m .refl s⟩
theorem GsW.cons (h1 : GW X tg d ρ μ ρ1 μ1) (h2 : GsW X tgs ds ρ1 μ1 ρ2 μ2) (ha : (assignEach (tg :: tgs) X.env).map (·.2) = assign tg X.env :: (assignEach tgs X.env).map (·.2) := by rfl) : GsW X (tg :: tgs) (d :: ds) ρ μ ρ2 μ2 := by
  intro w σ H vs m s h Q q
  cases h with
  | cons a b =>
    refine ⟨_, pgs_cons (p_gx (e := tg)) (p_gsx (e := tgs)) ha, ?_⟩
    refine ⟨_, _, rfl, h1 w σ H _ m s a _ fun σ1 H1 m1 f1 s1 => ?_⟩
    exact h2 w σ1 H1 _ m1 s1 (dqAll_mono f1.all _ _ b) Q fun σ2 H2 m2 f2 s2 => q σ2 H2 m2 (f1.trans f2) s2
theorem GW.tup {k : Nat} (h : GsW X tgs ds ρ μ ρ1 μ1) (hc : X.calm = true := by rfl) (hn : (assignEach tgs X.env).length = ds.length := by rfl) (hst : (assignEach tgs X.env).findIdx? (·.1) = none := by rfl) : GW X (.Tuple tgs k pos) (.tuple ds) ρ μ ρ1 μ1 := by
  intro w σ H v m s hv Q q
  cases hv with
  | tup ha hd =>
    refine ⟨_, pg_tup hc (p_gsx (e := tgs)) hn hst, ?_⟩
    exact ⟨_, _, rfl, SqT.of (dl_some ha).2, dqAll_len hd, h w σ H _ m s hd Q q⟩
theorem ST.asgW (h : EV X e ρ μ (.dat d) μ1) (hg : GW X tg d ρ μ1 ρ1 μ2) (hr : ST X W nn rest ρ1 μ2 P) (hs : swapsWithSole [tg] e pos.line X.env = pure false := by rfl) (hw : swappedStores [tg] e X.env = pure none := by rfl)
    (h1 : (assignEach [tg] X.env).map (·.2) = [assign tg X.env] := by rfl) : ST X W nn (.Assign [tg] e pos :: rest) ρ μ P := by
  intro w σ H D hn m s q
  refine ⟨_, pss_cons (ps_asg (p_ex (e := e)) (p_gx (e := tg)) hs hw h1) p_sx, ?_⟩
  refine h w σ H m s _ fun v H1 m1 f1 hv => ?_
  refine hg w σ H1 v m1 (s.fr f1) hv _ fun σ2 H2 m2 f2 s2 => ?_
  exact hr w σ2 H2 D hn m2 s2 fun o ho => (q o ho).step hn (f1.trans f2)
end
end J
namespace J
open PySem PySem.Spec
open PyProof.Rows L2
structure FnG (P : Program) (w : World) (K : PySem.W.Frag) (mg : Str → Option Value) (base : Heap) (k : Nat) (f : Addr) (fd : FuncData) (ps : List Str) (sp : Sp) : Prop where
  many : ∀ xs G R E, sp xs G R E → xs.length = ps.length
  go : ∀ (B : Around) (st : List Env) (t : Shared) (G : Hp) (ar : Args) (ws : List Value) (xs : List V) (R : VK) (E : XK), B.guards = some [] → Room k B → Env0 P w K mg base B st t G → BindsTo t fd ar (ps.zip ws) → Vals xs ws → sp xs G R E → codeAny (model P w) B (.call (.ref f) ar) (CR CX0 st P w G t R E) t
section
variable {w : World} {P : Program} {K : PySem.W.Frag} {base : Heap} {mg : Str → Option Value}
theorem fnG_of {k : Nat} {f : Addr} {nm0 qual : Str} {prm : Arguments} {bd : List Stmt} {scp : Scope} {dV kV doc pm cdv ct oc : Value} {an od : Option Addr} {osl : Array (Option Value)} {N ps : List Str} {sp : Sp}
    (look : K.lookup f = some ⟨oc, od, .func (PySem.W.fnOf nm0 qual prm bd scp dV kV doc pm an cdv ct), osl⟩) (code : PySem.W.codeIn K cdv qual = true) (Sc : FnScope N ps scp) (many : ∀ xs G R E, sp xs G R E → xs.length = ps.length)
    (hb : ∀ (B : Around) (st : List Env) (t : Shared) (G : Hp) (xs : List V) (R : VK) (E : XK), B.guards = some [] → Room k (B.deeper (envOfC qual scp t.heap.objs.size f cdv)) → sp xs G R E → ∃ T, PSs (cxOf CX0 P w K mg base N qual scp f cdv B st t G E) bd T ∧ T { nx := fun _ G' => R .non G', rt := R } (L2.start N xs) G) :
    FnG P w K mg base (k + 1) f (PySem.W.fnOf nm0 qual prm bd scp dV kV doc pm an cdv ct) ps sp := by
  refine ⟨many, fun B st t G ar ws xs R E hgd room e0 bind vals hsp => ?_⟩
  have hlen := many _ _ _ _ hsp
  have inK : K.In t.heap := e0.mod.kin.keeps fun a o z => (e0.bs a o z).1
  have noL : t.heap.NoLimit := e0.mod.nolimit.keeps fun a o z => (e0.bs a o z).1
  refine codeAny_call_function room.depth (inK _ _ look) rfl Sc.co Sc.gen rfl (PySem.W.codeRec_of inK code) (bind _ _ _ _ ?_)
  refine wpAny_newFunctionEnv_cells Sc.kind (fun ⟨n, v⟩ hy => ?_) fun env he t1 x => ?_
  · rcases Sc.par n (List.of_mem_zip hy).1 with z | z
    · exact Or.inl z
    · exact Or.inr ⟨z, PySem.W.cellsFrom_some _ _ _ (Or.inl z)⟩
  subst he
  refine ⟨noL.keeps x.toInCall.keep, codeAny_func ?_⟩
  obtain ⟨T, hT, hr⟩ := hb B st t G xs R E hgd (room.deeper _) hsp
  have I : Inv (cxOf CX0 P w K mg base N qual scp f cdv B st t G E) [] (L2.start N xs) G t1 := inv_start Sc room.hd e0 hlen vals x
  have done : ∀ {σ' : L2.St} {G' : Hp} {v : V} {u : Value} {t' : Shared}, Inv (cxOf CX0 P w K mg base N qual scp f cdv B st t G E) [] σ' G' t' → RelV v u → R v G' → CE st P w G t R u t' := fun {σ' G' v u t'} J rv hq => ⟨v, G', J.os, J.bare, J.base, J.hok, rv, hq⟩
  refine wpAny_mono (hT.run [] t1 (L2.start N xs) G _ I hr) (fun fl t' hs => ?_) fun e t' hs => hs
  match fl, hs with
  | .ret u, hs =>
    obtain ⟨v, σ', G', J, rv, hq⟩ := hs
    exact done J rv hq
  | .next, hs =>
    obtain ⟨σ', G', J, hq⟩ := hs
    exact done (v := V.non) (u := Value.none) J rfl hq
  | .brk, hs =>
    obtain ⟨_, _, _, hq⟩ := hs
    exact hq.elim
  | .cont, hs =>
    obtain ⟨_, _, _, hq⟩ := hs
    exact hq.elim
theorem funG {x qual : Str} {st : Stmt} {f : Addr} {fd : FuncData} {N ps : List Str} {k : Nat} {sp : Sp} (F : Fun K x qual st f fd) (Sc : FnScope N ps (defScope st)) (many : ∀ xs G R E, sp xs G R E → xs.length = ps.length)
    (hb : ∀ (cdv : Value) (B : Around) (o : List Env) (t : Shared) (G : Hp) (xs : List V) (R : VK) (E : XK), B.guards = some [] → Room k (B.deeper (envOfC qual (defScope st) t.heap.objs.size f cdv)) → sp xs G R E →
      ∃ T, PSs (cxOf CX0 P w K mg base N qual (defScope st) f cdv B o t G E).nox (defBody st) T ∧ T { nx := fun _ G' => R .non G', rt := R } (L2.start N xs) G) : FnG P w K mg base (k + 1) f fd ps sp := by
  obtain ⟨oc, od, kV, doc, pm, an, cdv, ct, osl, rfl, lk, hcd⟩ := F.ex
  refine fnG_of lk hcd Sc many fun B o t G xs R E hgd room hsp => ?_
  obtain ⟨T, hT, hq⟩ := hb cdv B o t G xs R E hgd room hsp
  exact ⟨T, hT.nox, hq⟩
structure CalG (P : Program) (w : World) (K : PySem.W.Frag) (mg : Str → Option Value) (base : Heap) (n : Str) (k : Nat) (ps : List Str) (C : Con) : Prop where
  ex : ∃ f fd, FnG P w K mg base k f fd ps (SpV K ps C) ∧ mg n = some (.ref f) ∧ PySem.W.keepIn K (.ref f) = true ∧ Binds K fd ps []
noncomputable def SpF (K : PySem.W.Frag) (ps : List Str) (C : List Ent → Sto → List PyData → Prop) : Sp := fun vs H Q _ => ∃ w μ rs xs, Mem K H w μ ∧ Vas K H w vs rs ∧ rs.length = ps.length ∧ C rs μ xs ∧
  ∀ p H' us, Mem K H' (wk' w p) μ → Fr w.α H H' → Nw H p → H' p = some (.lst us) → DqAll (dl H' (wk' w p).all) us xs → Q (.ref p) H'
structure CalF (P : Program) (w : World) (K : PySem.W.Frag) (mg : Str → Option Value) (base : Heap) (n : Str) (k : Nat) (ps : List Str) (C : List Ent → Sto → List PyData → Prop) : Prop where
  ex : ∃ f fd, FnOk P w K mg base CX0 k f fd ps (SpF K ps C) ∧ mg n = some (.ref f) ∧ PySem.W.keepIn K (.ref f) = true ∧ Binds K fd ps []
end
theorem fresh_of {w : Wd} {H H' : Hp} {K : PySem.W.Frag} {μ : Sto} {p : Addr} (m1 : Mem K H' w μ) (f : Fr w.α H H') (hp : Nw H' p) : Nw H p := Nw.back f hp fun z => m1.freshN hp (List.mem_append_left _ z)
theorem Mem.adopt {K : PySem.W.Frag} {H : Hp} {w : Wd} {p : Addr} {μ : Sto} {us : List V} {xs : List PyData} (m : Mem K H (wk' w p) μ) (hx : p ∉ w.ξ) (e : H p = some (.lst us)) (hd : DqAll (dl H (wk' w p).all) us xs) :
    Mem K H (w.add [p]) (μ ++ [xs]) := by
  have sub : Same (dl H (wk' w p).all) (dl H (w.add [p]).all) := dl_sub fun b hb => by
    rw [all_wk']
    simp only [Wd.all, List.mem_append, List.mem_cons, List.not_mem_nil, or_false] at hb ⊢
    rcases hb with (h | h) | h
    · exact .inr (.inl h)
    · exact .inl h
    · exact .inr (.inr h)
  have pn : p ∉ w.α := m.out p List.mem_cons_self
  have l1 : w.α.length = μ.length := m.len
  refine ⟨List.nodup_append.mpr ⟨m.nd, by simp, fun a h b h' => by simp at h'; subst h'; exact fun z => pn (z ▸ h)⟩, by simp [l1], fun k a ys h1 h2 => ?_, fun b hb z => ?_, fun b hb => m.ext b (List.mem_cons_of_mem _ hb), m.tab⟩
  · by_cases hk : k < w.α.length
    · obtain ⟨vs, e', hd'⟩ := m.cell k a ys (by rwa [List.getElem?_append_left hk] at h1) (by rwa [List.getElem?_append_left (by omega)] at h2)
      exact ⟨vs, e', dqAll_mono sub _ _ hd'⟩
    · rw [List.getElem?_append_right (by omega)] at h1 h2
      rw [l1] at h1
      cases hj : k - μ.length with
      | zero =>
        rw [hj] at h1 h2
        simp at h1 h2
        subst h1
        subst h2
        exact ⟨us, e, dqAll_mono sub _ _ hd⟩
      | succ j =>
        rw [hj] at h1
        simp at h1
  · rcases List.mem_append.mp z with z | z
    · exact m.out b (List.mem_cons_of_mem _ hb) z
    · have : b = p := by simpa using z
      subst this
      exact hx hb
section
variable {X : Cx} {ρ : REnv} {μ μ1 μ2 : Sto} {e : Expr} {es : List Expr} {pos p : Pos} {rs : List Ent} {xs ys : List PyData} {n : Str} {k : Nat} {ps : List Str}
theorem EVF.call {C : List Ent → Sto → List PyData → Prop} (F : CalF X.prog X.w X.K X.mg X.base n k ps C) (hr : Room k X.A) (ha : AV X (e :: es) ρ μ rs μ1) (hC : C rs μ1 xs) (hl : rs.length = ps.length := by rfl)
    (hg : Gl X n := by rfl) (hdb : (n == ("__debug__" : Str)) = false := by decide) (he : starEach (e :: es) X.env = (false, eval e X.env) :: starEach es X.env := by rfl) (hpl : (backTo pos (starEach es X.env)).any (·.1) = false := by rfl) :
    EVF X (.Call (.Name n p) (e :: es) [] pos) ρ μ xs μ1 := by
  intro w σ H m s Q q
  obtain ⟨f, fd, G, hm, hk, hb⟩ := F.ex
  refine ⟨_, pe_call (E := E0) G hr hg hm hk hb .nil pass0 (p_ax (e := e :: es)) hdb he hpl, ?_⟩
  refine ha w σ H m s _ fun vs H1 m1 f1 h1 => ?_
  exact ⟨w, μ1, rs, xs, m1, by rw [List.append_nil]; exact h1, hl, hC, fun p H' us m2 f2 hp e2 hd => q p H' us m2 (f1.trans f2) (fresh_of m1 f1 hp) e2 hd⟩
theorem runG {pins : List (Addr × Obj)} {σ : L2.St} {H : Hp} {s : Shared} {Q : VK} {us : List Value} {vs : List V} {f : Addr} {fd : FuncData} {sp : Sp} (F : FnG X.prog X.w X.K X.mg X.base k f fd ps sp) (hgd : X.A.guards = some []) (hr : Room k X.A) (hb : Binds X.K fd ps []) (I : Inv X pins σ H s) (r : Vals vs us) (h : sp vs H Q E0) : wpAny (model X.prog X.w) X.A (call (.ref f) us) (EP X pins σ Q) X.xe s := by
  have hl : us.length = ps.length := r.length.symm.trans (F.many _ _ _ _ h)
  have hb2 := hb s us I.kIn (by rw [List.append_nil]; exact hl)
  rw [List.append_nil] at hb2
  refine wpAny_call (codeAny_mono (F.go X.A X.stack s H ⟨us, []⟩ us vs Q E0 hgd hr I.env0 hb2 r h) fun rr t hq => ?_)
  match rr, hq with
  | .ok (.ret u), hq => exact I.after hq
end
mutual
noncomputable def rlen : PyData → Nat
  | .none => 4
  | .bool _ => 5
  | .int i => ((toString i : String) : Str).length
  | .str x => 10 * x.length + 2
  | .list xs => 3 + rlenAll xs
  | .tuple xs => 3 + rlenAll xs
  | .dict _ => 0
noncomputable def rlenAll : List PyData → Nat
  | [] => 0
  | x :: xs => rlen x + 2 + rlenAll xs
end
theorem join_sum (sep : Str) : ∀ ys : List Str, (Str.join sep ys).length ≤ (ys.map fun y => y.length + sep.length).sum
  | [] => Nat.zero_le _
  | [x] => by
    show x.length ≤ _
    simp
  | x :: z :: r => by
    have := join_sum sep (z :: r)
    show (x ++ sep ++ Str.join sep (z :: r)).length ≤ _
    rw [strLen_append, strLen_append, List.map_cons, List.sum_cons]
    omega
theorem strOk_lt {x : Str} (h : PyData.strOk x = true) : ∀ c ∈ x.cps.toList, c < 16 ^ 8 := by
  unfold PyData.strOk at h
  rw [← Array.all_toList, List.all_eq_true] at h
  intro c hc
  have := of_decide_eq_true (h c hc)
  omega
mutual
theorem shown_le : ∀ d : PyData, d.canLay0 = true → d.shown.length ≤ rlen d
  | .none, _ => by rw [PyData.shown_none]; decide
  | .bool b, _ => by rw [PyData.shown_bool]; cases b <;> decide
  | .int i, _ => by rw [PyData.shown_int]; exact Nat.le_refl _
  | .str x, h => by
    rw [PyData.shown_str]
    simp only [PyData.canLay0] at h
    exact StrLaws.reprText_len x (strOk_lt h)
  | .list xs, h => by
    simp only [PyData.canLay0] at h
    have h1 := shownAll_le xs h
    have h2 := join_sum ", " (PyData.shownAll xs)
    rw [PyData.shown_list, strLen_append, strLen_append]
    have e1 : ((("[" : String) : Str)).length = 1 := by decide
    have e2 : ((("]" : String) : Str)).length = 1 := by decide
    have e3 : (((", " : String) : Str)).length = 2 := by decide
    rw [e3] at h2
    simp only [rlen]
    omega
  | .tuple xs, h => by
    simp only [PyData.canLay0] at h
    have h1 := shownAll_le xs h
    have h2 := join_sum ", " (PyData.shownAll xs)
    rw [PyData.shown_tuple, strLen_append, strLen_append]
    have e1 : ((("(" : String) : Str)).length = 1 := by decide
    have e2 : ((((if xs.length == 1 then ",)" else ")" : String) : Str))).length ≤ 2 := by split <;> decide
    have e3 : (((", " : String) : Str)).length = 2 := by decide
    rw [e3] at h2
    simp only [rlen]
    omega
  | .dict _, h => by simp [PyData.canLay0] at h
theorem shownAll_le : ∀ xs : List PyData, PyData.canLayAll0 xs = true → ((PyData.shownAll xs).map fun y => y.length + 2).sum ≤ rlenAll xs
  | [], _ => by rw [PyData.shownAll_nil]; exact Nat.zero_le _
  | x :: xs, h => by
    simp only [PyData.canLayAll0, Bool.and_eq_true] at h
    have h1 := shown_le x h.1
    have h2 := shownAll_le xs h.2
    rw [PyData.shownAll_cons, List.map_cons, List.sum_cons]
    simp only [rlenAll]
    omega
end
mutual
theorem noDict0 : ∀ d : PyData, d.canLay0 = true → d.hasDict = false
  | .none, _ => rfl
  | .bool b, _ => rfl
  | .int i, _ => rfl
  | .str x, h => rfl
  | .list xs, h => by
    simp only [PyData.canLay0] at h
    simpa only [PyData.hasDict] using noDictAll0 xs h
  | .tuple xs, h => by
    simp only [PyData.canLay0] at h
    simpa only [PyData.hasDict] using noDictAll0 xs h
  | .dict _, h => by simp [PyData.canLay0] at h
theorem noDictAll0 : ∀ xs : List PyData, PyData.canLayAll0 xs = true → PyData.hasDictAll xs = false
  | [], _ => rfl
  | x :: xs, h => by
    simp only [PyData.canLayAll0, Bool.and_eq_true] at h
    simp only [PyData.hasDictAll, noDict0 x h.1, noDictAll0 xs h.2, Bool.or_self]
end
noncomputable def isSeq : PyData → Bool
  | .list _ | .tuple _ => true
  | _ => false
structure Shw (d : PyData) : Prop where
  seq : isSeq d = true
  lay : d.canLay0 = true
  shw : d.showable = true
  dep : d.depth ≤ 60
  len : rlen d ≤ 10000000
end J
namespace J
open PySem PySem.Spec
open PyProof.Rows L2
section
variable {X : Cx} {W : WX} {ρ : REnv} {μ μ1 μ2 : Sto} {a b e : Expr} {es : List Expr} {pos p p2 : Pos} {xs ys : List PyData} {n : Nat} {P : Out → Prop} {rest : List Stmt}
theorem EVF.lstRg {j : Int} (T : X.mg "list" = none) (T2 : X.mg "range" = none) (hc : X.calm = true) (ha : EV X a ρ μ (Ii j) μ1) (h0 : 0 ≤ j) (h1 : j ≤ 1000) (hg : Gl X "list" := by rfl) (hg2 : Gl X "range" := by rfl)
    (hs : starEach [a] X.env = (false, eval a X.env) :: starEach [] X.env := by rfl) (hs2 : starEach [.Call (.Name "range" p2) [a] [] p] X.env = (false, eval (.Call (.Name "range" p2) [a] [] p) X.env) :: starEach [] X.env := by rfl) {p3 : Pos} : EVF X (.Call (.Name "list" p3) [.Call (.Name "range" p2) [a] [] p] [] pos) ρ μ ((List.range j.toNat).map fun (i : Nat) => PyData.int (0 + (i : Int))) μ1 := by
  intro w σ H m s Q q
  refine ⟨_, pe_listRg hc hg T (prg_1 hg2 T2 (p_ex (e := a)) hs) hs2, ?_⟩
  refine ha w σ H m s _ fun v H1 m1 f1 h1 => ?_
  cases h1
  refine ⟨j, rfl, RgOk.of_le (by decide) (by omega) (by decide) h0, fun l hl => ?_⟩
  have hl0 := fresh_of m1 f1 (Nw.of hl)
  refine q l _ (rgV 0 j) (m1.keep hl) (f1.trans (Fr.of_same (Same.new hl))) hl0 upd_same ?_
  have : ∀ (bs : List Nat), DqAll (dl (upd H1 l (.lst (rgV 0 j))) (wk' w l).all) (bs.map fun i => V.int (0 + (i : Nat))) (bs.map fun (i : Nat) => PyData.int (0 + (i : Int))) := by
    intro bs
    induction bs with
    | nil => exact .nil
    | cons b bs ih => exact .cons (.int _) ih
  have e : j.toNat = (j - 0).toNat := by rw [Int.sub_zero]
  rw [e]
  exact this _
theorem Sl.grow {K : PySem.W.Frag} {H H' : Hp} {w w' : Wd} {σ : L2.St} (h : Sl K H w σ ρ) (f : Same (dl H w.all) (dl H' w'.all)) (g : ∀ (k : Nat) (c : Addr), w.α[k]? = some c → w'.α[k]? = some c) : Sl K H' w' σ ρ := ⟨h.len, fun i r e => by
  obtain ⟨v, hv, hr⟩ := h.at_ i r e
  refine ⟨v, hv, ?_⟩
  match r, hr with
  | .dat d, hr => exact dq_mono f d v hr
  | .ptr k, hr => exact ⟨hr.choose, g _ _ hr.choose_spec.1, hr.choose_spec.2⟩
  | .obj C fs, hr =>
    obtain ⟨x, dx, ws, e, hx, hn, hd⟩ := hr
    exact ⟨x, dx, ws, e, f _ _ hx, hn, dqAll_mono f _ _ hd⟩
  | .raw u, hr => exact hr
  | .exc a d fs, hr =>
    obtain ⟨e, ws, hx, hn, hd⟩ := hr
    exact ⟨e, ws, f _ _ hx, hn, dqAll_mono f _ _ hd⟩
  | .scr ns, hr =>
    obtain ⟨c, e, hs⟩ := hr
    exact ⟨c, e, Same.seq f hs⟩⟩
theorem ST.par2 {i j : Nat} {x y : Str} {px py pt : Pos} {kt k2 pt2} (ha : EVF X a ρ μ xs μ1) (hb : EVF X b ρ μ1 ys μ2) (hN : X.N.Nodup) (hi : X.N[i]? = some x) (hj : X.N[j]? = some y) (hij : i ≠ j)
    (hx : X.env.scope.names.lookup x = some .local) (hy : X.env.scope.names.lookup y = some .local) (hr : ST X W n rest ((ρ.set i (some (.ptr (μ2.length + 1)))).set j (some (.ptr μ2.length))) (μ2 ++ [ys] ++ [xs]) P)
    (hw : swappedStores [.Tuple [.Name x px, .Name y py] kt pt] (.Tuple [a, b] k2 pt2) X.env = pure (some [x, y])) (hc : X.calm = true := by rfl)
    (hs : swapsWithSole [.Tuple [.Name x px, .Name y py] kt pt] (.Tuple [a, b] k2 pt2) pos.line X.env = pure false := by rfl) (he : starEach [a, b] X.env = (false, eval a X.env) :: starEach [b] X.env := by rfl) (he2 : starEach [b] X.env = (false, eval b X.env) :: starEach [] X.env := by rfl) : ST X W n (.Assign [.Tuple [.Name x px, .Name y py] kt pt] (.Tuple [a, b] k2 pt2) pos :: rest) ρ μ P := by
  intro w σ H D hn m s q
  refine ⟨_, pss_cons (ps_par hc hN hi hj hij hx hy (pa_cons (p_ex (e := a)) (pa_cons (p_ex (e := b)) pa_nil he2) he) hw hs) p_sx, ?_⟩
  refine ha w σ H m s _ fun c1 H1 us m1 f1 hc1 e1 hd1 => ?_
  have g1 : Same (dl H w.all) (dl H1 (wk' w c1).all) := keep_outN (K := X.K) hc1 f1 ⟨_, e1⟩
  refine hb (wk' w c1) σ H1 m1 (s.same2 g1) _ fun c2 H2 vs m2 f2 hc2 e2 hd2 => ?_
  have g2 : Same (dl H1 (wk' w c1).all) (dl H2 (wk' (wk' w c1) c2).all) := keep_outN (K := X.K) hc2 f2 ⟨_, e2⟩
  have n1 : c1 ∉ w.all := m.freshN hc1
  have n2 : c2 ∉ (wk' w c1).all := m1.freshN hc2
  have e1' : H2 c1 = some (.lst us) := f2 c1 _ e1 (fun z => n1 (List.mem_append_left _ z)) (fun q z => by cases z)
  have hd1' : DqAll (dl H2 (wk' (wk' w c1) c2).all) us xs := dqAll_mono g2 _ _ hd1
  have a1 : Mem X.K H2 ((wk' w c1).add [c2]) (μ2 ++ [ys]) := m2.adopt (fun z => n2 (List.mem_append_right _ z)) e2 hd2
  have all1 : ∀ c, c ∈ ((wk' w c1).add [c2]).all → c ∈ (wk' (wk' w c1) c2).all := fun c hc => by
    rw [all_wk', all_wk']
    simp only [Wd.all, List.mem_append, List.mem_cons, List.not_mem_nil, or_false] at hc ⊢
    rcases hc with (h | h) | (h | h)
    · exact .inr (.inr (.inl h))
    · exact .inl h
    · exact .inr (.inl h)
    · exact .inr (.inr (.inr h))
  have a2 : Mem X.K H2 ((w.add [c2]).add [c1]) (μ2 ++ [ys] ++ [xs]) := Mem.adopt (w := w.add [c2]) a1 (fun z => n1 (List.mem_append_right _ z)) e1' (dqAll_mono (dl_sub all1) _ _ hd1')
  have f12 : Fr w.α H H2 := f1.trans f2
  have al : w.add [c2, c1] = (w.add [c2]).add [c1] := by simp [Wd.add]
  have sl : Sl X.K H2 ((w.add [c2]).add [c1]) σ ρ := by
    refine s.grow ((g1.trans g2).trans (dl_sub fun c hc => ?_)) fun k c hk => ?_
    · rw [all_wk', all_wk']
      simp only [Wd.all, List.mem_append, List.mem_cons, List.not_mem_nil, or_false] at hc ⊢
      rcases hc with ((h | h) | h) | h
      · exact .inr (.inr (.inl h))
      · exact .inl h
      · exact .inr (.inl h)
      · exact .inr (.inr (.inr h))
    · have hk' := (List.getElem?_eq_some_iff.mp hk).1
      show ((w.α ++ [c2]) ++ [c1])[k]? = some c
      rw [List.getElem?_append_left (by simp; omega), List.getElem?_append_left hk']
      exact hk
  have l2 : w.α.length = μ2.length := m2.len
  refine ⟨.ref c1, .ref c2, rfl, hr ((w.add [c2]).add [c1]) _ H2 D (by simp; omega) a2 ((sl.set (v := .ref c1) (r := .ptr (μ2.length + 1)) ⟨c1, ?_, rfl⟩).set (v := .ref c2) (r := .ptr μ2.length) ⟨c2, ?_, rfl⟩) fun o ho => ?_⟩
  · show ((w.α ++ [c2]) ++ [c1])[μ2.length + 1]? = some c1
    rw [List.getElem?_append_right (by simp; omega)]
    simp [l2]
  · show ((w.α ++ [c2]) ++ [c1])[μ2.length]? = some c2
    rw [List.getElem?_append_left (by simp; omega), List.getElem?_append_right (by omega)]
    simp [l2]
  · rw [← al]
    refine Fin.grow (q o ho) hn f12 fun c hc => ?_
    rcases List.mem_cons.mp hc with rfl | hc
    · exact fresh_of m1.unkeep f1 hc2
    · have : c = c1 := by simpa using hc
      rw [this]
      exact hc1
end
end J
namespace J
open PySem PySem.Spec
open PyProof.Rows L2
end J
namespace J
open PySem PySem.Spec
open PyProof.Rows L2
end J
namespace J
open PySem PySem.Spec
open PyProof.Rows L2
section
variable {X : Cx} {ρ : REnv} {μ μ1 μ2 μ3 : Sto} {a b o : Expr} {pos p p2 : Pos} {C : Addr} {fs gs : List (Str × PyData)} {k : Nat} {cn : Con} {n : Str}
theorem EV.isC (c : C8.InsC X.K C) (T : X.mg "isinstance" = none) (hm : X.mg n = some (.ref C)) (ho : EV X o ρ μ (.obj C fs) μ1) (hg : Gl X "isinstance" := by rfl) (hgT : Gl X n := by rfl) (hdb : (n == ("__debug__" : Str)) = false := by decide)
    (he : starEach [o, .Name n p2] X.env = (false, eval o X.env) :: starEach [.Name n p2] X.env := by rfl) (he2 : starEach [.Name n p2] X.env = (false, eval (.Name n p2) X.env) :: starEach [] X.env := by rfl) (hpl : (backTo pos (starEach [.Name n p2] X.env)).any (·.1) = false := by rfl) : EV X (.Call (.Name "isinstance" p) [o, .Name n p2] [] pos) ρ μ (Bb true) μ1 := by
  intro w σ H m s Q q
  refine ⟨_, pe_callB (C8.call_isC c) hg T (by decide +kernel) (pa_cons (p_ex (e := o)) (pa_cons (pe_glob (v := .ref C) hgT hm rfl hdb) pa_nil he2) he) (by decide) (by decide) he hpl, ?_⟩
  refine ho w σ H m s _ fun v H1 m1 f1 h1 => ?_
  obtain ⟨x, dx, ws, rfl, hx, hn, hd⟩ := h1
  exact ⟨x, dx, ws, rfl, (dl_some hx).2, q _ H1 m1 f1 (Dq.bl true)⟩
variable {e1 e2 e3 : Expr} {m : Str} {ks ps : List Str} {apos q1 q2 q3 : Pos} {k1 k2 k3 : Str} {r1 r2 r3 r : Ent} {μ4 μ5 : Sto}
end
end J
namespace J
open PySem PySem.Spec
open PyProof.Rows L2
end J
namespace J
open PySem PySem.Spec
open PyProof.Rows L2
end J
namespace J
open PySem PySem.Spec
open PyProof.Rows L2
noncomputable abbrev ConP := List Ent → Sto → (Ent → Sto → Prop) → Prop
noncomputable def SpP (K : PySem.W.Frag) (ps : List Str) (C : ConP) : Sp := fun vs H Q _ => ∃ w μ rs Φ, Mem K H w μ ∧ Vas K H w vs rs ∧ rs.length = ps.length ∧ C rs μ Φ ∧ ∀ r μ' v H', Φ r μ' → Mem K H' w μ' → Fr w.α H H' → Val K H' w v r → Q v H'
structure CalGP (P : Program) (w : World) (K : PySem.W.Frag) (mg : Str → Option Value) (base : Heap) (n : Str) (k : Nat) (ps : List Str) (C : ConP) : Prop where
  ex : ∃ f fd, FnG P w K mg base k f fd ps (SpP K ps C) ∧ mg n = some (.ref f) ∧ PySem.W.keepIn K (.ref f) = true ∧ Binds K fd ps []
noncomputable def PostP (Φ : Ent → Sto → Prop) : Out → Prop
  | .ret r μ' => Φ r μ'
  | _ => False
theorem ST.retQ {X : Cx} {W : WX} {n : Nat} {ρ : REnv} {μ ν : Sto} {e : Expr} {sts : List Stmt} {pos : Pos} {r : Ent} {Φ : Ent → Sto → Prop} (h : EV X e ρ μ r ν) (hΦ : Φ (frz n ν r) (ν.take n)) : ST X W n (.Return (some e) pos :: sts) ρ μ (PostP Φ) := ST.ret h hΦ
section
variable {w : World} {P : Program} {K : PySem.W.Frag} {base : Heap} {mg : Str → Option Value}
theorem Df.calGP {x : Str} {st : Stmt} {N ps : List Str} {k : Nat} {C : ConP} (D : Df K mg x st) (Sc : FnScope N ps (defScope st))
    (hb : ∀ (kV doc pm : Value) (an : Option Addr) (cdv ct : Value) (us : List Value), us.length = ps.length → bindArgs (PySem.W.fnOf x x (defArgs st) (defBody st) (defScope st) .none kV doc pm an cdv ct) ⟨us, []⟩ = pure (ps.zip us))
    (hN : ps.length ≤ N.length)
    (body : ∀ (f : Addr) (cdv : Value) (A : Around) (outer : List Env) (s : Shared) (H : Hp) (E : XK), A.guards = some [] → Room k (A.deeper (envOfC x (defScope st) s.heap.objs.size f cdv)) → ∀ rs μ Φ, C rs μ Φ →
      ST (cxOf CX0 P w K mg base N x (defScope st) f cdv A outer s H E).nox W0 μ.length (defBody st) (rs.map some ++ List.replicate (N.length - rs.length) none) μ (PostP Φ)) : CalGP P w K mg base x (k + 1) ps C := by
  obtain ⟨f, fd, F, hm⟩ := D.ex
  refine ⟨f, fd, funG F Sc (fun xs G R E h => ?_) (fun cdv B o t G xs R E hgd room h => ?_), hm, F.kp, F.binds hb⟩
  · obtain ⟨w0, μ, rs, Φ, _, hv, hl, _⟩ := h
    exact hv.1.trans hl
  · obtain ⟨w0, μ, rs, Φ, m, hv, hl, hC, q⟩ := h
    refine body f cdv B o t G E hgd room rs μ Φ hC w0 _ G _ (Nat.le_of_eq m.len.symm) m (sl_start hv (by omega)) fun oo ho => ?_
    have hw : w0.cut μ.length = w0 := by
      show (⟨w0.α.take μ.length, w0.ξ⟩ : Wd) = w0
      rw [← m.len, List.take_length]
    match oo, ho with
    | .ret r2 μ2, ho =>
      intro v G' m' f' hv'
      rw [hw] at m' hv'
      exact q r2 μ2 v G' ho m' f' hv'
end
section
variable {X : Cx} {ρ : REnv} {μ μ1 μ2 : Sto} {e : Expr} {es : List Expr} {pos p : Pos} {rs : List Ent} {xs : List PyData} {n : Str} {k : Nat} {ps : List Str}
theorem EV.callNewP {C : ConP} {b : Bool} {x1 : Str} {Φ : Ent → Sto → Prop} (F : CalGP X.prog X.w X.K X.mg X.base n k [x1] C) (hgd : X.A.guards = some []) (hr : Room k X.A) (ha : EVF X e ρ μ xs μ1) (hC : C [.ptr μ1.length] (μ1 ++ [xs]) Φ) (hΦ : ∀ r μ', Φ r μ' → r = Bb b ∧ ∃ ys, μ' = μ1 ++ [ys])
    (hg : Gl X n := by rfl) (hdb : (n == ("__debug__" : Str)) = false := by decide) (he : starEach [e] X.env = (false, eval e X.env) :: starEach [] X.env := by rfl) (hpl : (backTo pos (starEach [] X.env)).any (·.1) = false := by rfl) :
    EV X (.Call (.Name n p) [e] [] pos) ρ μ (Bb b) μ1 := by
  intro w σ H m s Q q
  obtain ⟨f, fd, G, hm, hk, hb⟩ := F.ex
  refine ⟨tCall (SpP X.K [x1] C) [] E0 (tCons (EX X e) tNil), ⟨fun pins s0 σ0 H0 Q0 I h => ?_⟩, ?_⟩
  · refine wpAny_Call_Name_kw (ld_glob I hg hm ?_ hdb)
    refine PySem.W.callWith_K (h₀ := X.base) I.ok.mod.kin hk (thn ((pa_cons (p_ex (e := e)) pa_nil he).run pos pins s0 σ0 H0 _ I h) fun us s1 ⟨vs, H1, I1, r, z⟩ => ⟨I1.kIn, ?_⟩) he hpl
    have z' : SpP X.K [x1] C (vs ++ []) H1 Q0 E0 := z
    rw [List.append_nil] at z'
    exact runG G hgd hr hb I1 r z'
  · refine ha w σ H m s _ fun p0 H1 us m1 f1 hp e1 hd => ?_
    have hx : p0 ∉ w.ξ := fun z => m.freshN hp (List.mem_append_right _ z)
    have hl1 : w.α.length = μ1.length := m1.len
    have hw : (w.add [p0]).cut w.α.length = w := by
      rw [take_add (Nat.le_refl _)]
      show (⟨w.α.take w.α.length, w.ξ⟩ : Wd) = w
      rw [List.take_length]
    refine ⟨w.add [p0], μ1 ++ [xs], [.ptr μ1.length], Φ, m1.adopt hx e1 hd, .cons ⟨p0, ?_, rfl⟩ .nil, rfl, hC, fun r μ' v H2 hr2 m2 f2 h2 => ?_⟩
    · rw [List.getElem?_append_right (by omega), hl1]
      simp
    · obtain ⟨rfl, ys, rfl⟩ := hΦ r μ' hr2
      have mm := m2.cut w.α.length
      rw [hw, hl1, List.take_left] at mm
      cases h2
      refine q _ H2 mm (fun c o hc hn nt => f2 c o (f1 c o hc hn nt) (fun z => ?_) nt) (Dq.bl b)
      rcases List.mem_append.mp z with z | z
      · exact hn z
      · have : c = p0 := by simpa using z
        exact hp o (this ▸ hc) nt
end
end J
namespace J
open PySem PySem.Spec
open PyProof.Rows L2
section
variable {X : Cx} {e : Expr} {es : List Expr} {ta : TA} {p pos : Pos}
theorem pmk_oexN {Y : CXT} {x : Str} {C gI : Addr} {k : Nat} {fd : FuncData} {ps : List Str} {sp : Sp} (O : OexC X.K C) (hi : PySem.W.findIn X.K (.ref C) "__init__" = some (some (.ref gI))) (ht : PySem.W.typeIn X.K (.ref gI) = some (.type "function"))
    (Fn : FnOk X.prog X.w X.K X.mg X.base Y k gI fd ps sp) (room : Room (k + 1) X.A) (bi : Binds X.K fd ps []) (pass : Passes Y X (fun _ _ _ => False)) (glob : Gl X x) (mean : X.mg x = some (.ref C)) (args : PA X (e :: es) ta)
    (ndb : (x == ("__debug__" : Str)) = false := by decide) (st : starEach (e :: es) X.env = (false, eval e X.env) :: starEach es X.env := by rfl) (pl : (backTo pos (starEach es X.env)).any (·.1) = false := by rfl) :
    L2N.PMk X (.Call (.Name x p) (e :: es) [] pos) (tMkO C sp [] ta) := by
  intro pins s0 σ0 H0 Q J hh
  obtain ⟨c1, c2, c3, c4, c5, c6, c7, c8, c9, c10, c11, c12, c13, c14, c15, look, refs⟩ := O.cls
  refine wpAny_Call_Name_kw (ld_glob J glob mean ?_ ndb)
  refine PySem.W.callWith_K (h₀ := X.base) J.ok.mod.kin O.kC (thn (args.run pos pins s0 σ0 H0 _ J hh) fun vals t1 ⟨ws, G, J1, rel, _, want⟩ => ⟨J1.kIn, ?_⟩) st pl
  show wpAny _ _ (call (.ref C) vals) _ _ _
  obtain ⟨h1, gn, dw, tok, sys⟩ := t1
  have le1 : h1.objs.size ≤ h1.objs.size + 1 := Nat.le_succ _
  have want1 := want (h1.objs.size + 1) (J1.hok.fresh le1)
  rw [List.append_nil] at want1
  have keep1 : ∀ b u, h1.get? b = some u → ((h1.push (PySem.W.kdv_tup vals)).push (PySem.HandSPX.excO C h1.objs.size)).get? b = some u := fun b u z => Heap.get?_push_of_some _ (Heap.get?_push_of_some _ z)
  have made : ((h1.push (PySem.W.kdv_tup vals)).push (PySem.HandSPX.excO C h1.objs.size)).get? (h1.objs.size + 1) = some (PySem.HandSPX.excO C h1.objs.size) := by heap_get
  have J2 : Inv X pins σ0 (upd G (h1.objs.size + 1) (exo (h1.objs.size + 1) C none)) ⟨(h1.push (PySem.W.kdv_tup vals)).push (PySem.HandSPX.excO C h1.objs.size), gn, dw, tok, sys⟩ :=
    J1.laid (o := exo (h1.objs.size + 1) C none) (a := h1.objs.size + 1) (t' := tok) (h' := (h1.push (PySem.W.kdv_tup vals)).push (PySem.HandSPX.excO C h1.objs.size)) keep1 le1 (exo_ok made)
  have rel2 : Vals (V.ref (h1.objs.size + 1) :: ws) (Value.ref (h1.objs.size + 1) :: vals) := .cons rfl rel
  have many : (Value.ref (h1.objs.size + 1) :: vals ++ []).length = ps.length := by
    have z := rel2.length
    rw [Fn.len _ _ _ _ want1] at z
    rw [List.append_nil]
    exact z.symm
  have small : vals.length ≤ sizeLine := by
    rw [← Paired.length rel, sizeLine_eq]
    omega
  have bind2 := bi _ (Value.ref (h1.objs.size + 1) :: vals) J2.kIn many
  rw [List.append_nil] at bind2
  refine wpAny_call (PySem.HandSPX.call_own PySem.F.excBase_ValueError (fun Z => PySem.HandSPX.refsVE_contains Z c5 refs) (J1.kIn _ _ look) (PySem.W.looks_findIn J1.kIn hi) (fun self => PySem.W.bind_fn J1.kIn self ht) small
    (codeAny_mono (Fn.run _ X.stack _ _ ⟨Value.ref (h1.objs.size + 1) :: vals, []⟩ (Value.ref (h1.objs.size + 1) :: vals) _ _ (fun _ _ _ => False) (room.make C vals []) (J2.env0.make C vals []) bind2 rel2 want1) fun r t3 got => ?_))
  match r, got with
  | .error er, got => exact pass pins σ0 _ _ er t3 J2 got
  | .ok (.ret u), got =>
    obtain ⟨v, G2, os2, ag2, un2, ok2, rv, ev, dd, fs, ea, ed, free, q2⟩ := got
    subst ev
    obtain ⟨h2, gn2, dw2, tok2, sys2⟩ := t3
    obtain ⟨t0, G3, J3, k3, ne3, oe3, na3⟩ := mk_end0 (d2 := dw2) (t2 := tok2) J1 le1 keep1 un2 ok2 os2 ag2 ea ed free
    refine ⟨rv, h1.objs.size + 1, _, _, ⟨G3, gn2, dw2, tok2, sys2⟩, _, .ref C, some dd, rfl, J3, k3, ne3, oe3, ⟨rfl, rfl, fun vs z => ?_⟩, rfl, rfl, na3, rfl, ag2, raises_own O.exC O.tyC, q2⟩
    cases z
    rfl
end
theorem sky_zc {B : Heap} {l : List Env} {a L : Addr} {cls : Value} {d : Option Addr} {h : Heap} (s : Sky B l a (L2N.Zn cls d) L h) : Sky B l a (Zc cls d) L h := by
  rcases s with ⟨q1, q2, q3, oe, vs, q4, q5, q6⟩ | s | s
  · exact .inl ⟨q1, q2, q3, oe, vs, q4, q5.zc, q6⟩
  · exact .inr (.inl (L2H.flyingZ_imp (fun o z => z.zc) s))
  · exact .inr (.inr ⟨s.1, s.2.1, s.2.2.1, L2H.tracedZ_imp (fun o z => z.zc) s.2.2.2⟩)
theorem okXN {P : Program} {w : World} {K : PySem.W.Frag} {mg : Str → Option Value} {base : Heap} {x qual : Str} {st : Stmt} {f : Addr} {fd : FuncData} {N ps : List Str} {k : Nat} {sp : Sp} (F : Fun K x qual st f fd) (Sc : FnScope N ps (defScope st)) (many : ∀ vs H Q E, sp vs H Q E → vs.length = ps.length)
    (bd : ∀ (cdv : Value) (A : Around) (outer : List Env) (s : Shared) (H : Hp) (vs : List V) (Q : VK) (E : XK), Room k (A.deeper (envOfC qual (defScope st) s.heap.objs.size f cdv)) → sp vs H Q E →
      ∃ T, PSs (cxOf (L2N.CX P w) P w K mg base N qual (defScope st) f cdv A outer s H E) (defBody st) T ∧ T { nx := fun _ G => Q .non G, rt := Q } (start N vs) H) : FnOk P w K mg base (L2N.CX P w) (k + 1) f fd ps sp := by
  obtain ⟨oc, od, kV, doc, pm, an, cdv, ct, osl, rfl, lk, hcd⟩ := F.ex
  exact fn_of lk hcd Sc many fun A outer s H vs Q E room want => bd cdv A outer s H vs Q E room want
theorem takesN {X : Cx} {W : WX} (tk : L2.Takes X W) : L2N.Takes X W := by
  intro u s' h
  obtain ⟨a, B, sI, pins, σ, H, cls, d, e, I, nb, up, sky, h⟩ := h
  exact tk u s' ⟨a, B, sI, pins, σ, H, cls, d, e, I, nb, up, sky_zc sky, h⟩
end J
namespace J
open PySem PySem.Spec
open PyProof.Rows L2
inductive Res where
  | ok (r : Ent) (μ : Sto)
  | rse (C : Addr) (fs : List (Str × PyData)) (μ : Sto)
noncomputable def EndR (K : PySem.W.Frag) (w : Wd) (H : Hp) (σ : L2.St) (W : WX) (Q : VK) : Res → Prop
  | .ok r μ' => ∀ v H', Mem K H' w μ' → Fr w.α H H' → Val K H' w v r → Q v H'
  | .rse C fs μ' => ∀ od H', Mem K H' w μ' → Fr w.α H H' → Xd H' w od fs → W (.ref C) od σ H'
noncomputable def EVR (X : Cx) (W : WX) (e : Expr) (ρ : REnv) (μ : Sto) (o : Res) : Prop := ∀ w σ H, Mem X.K H w μ → Sl X.K H w σ ρ → ∀ Q : VK, EndR X.K w H σ W Q o → EX X e σ H Q
section
variable {X : Cx} {W : WX} {ρ : REnv} {μ μ1 μ2 : Sto} {e c : Expr} {es : List Expr} {pos p p' : Pos} {rs : List Ent} {r : Ent} {o : Res} {n x : Str} {k nn : Nat} {ps : List Str} {C : Addr} {fs : List (Str × PyData)} {P : Out → Prop} {rest : List Stmt}
theorem EVR.ev (h : EVR X W e ρ μ (.ok r μ1)) : EV X e ρ μ r μ1 := fun w σ H m s Q q => h w σ H m s Q q
theorem Xd.sub {H : Hp} {w w' : Wd} {od : Option Addr} (h : Xd H w od fs) (g : ∀ b ∈ w'.all, b ∈ w.all) : Xd H w' od fs := by
  cases od with
  | none => exact h
  | some d =>
    obtain ⟨ws, e, nd, hn, hd⟩ := h
    exact ⟨ws, e, fun z => nd (g d z), hn, dqAll_mono (dl_sub g) _ _ hd⟩
theorem Fin.rse0 {w : Wd} {H H1 : Hp} {D : Ends} {n : Nat} {σ : L2.St} {od : Option Addr} (q : Fin X W n w H D (.rse ρ μ1 C fs)) (m : Mem X.K H1 w μ1) (s : Sl X.K H1 w σ ρ) (f : Fr w.α H H1) (hx : Xd H1 w od fs) : W (.ref C) od σ H1 := by
  have := q od [] σ H1 (by rw [add_nil]; exact m) (by rw [add_nil]; exact s) f (fun b hb => absurd hb (by simp))
  rw [add_nil] at this
  exact this hx
noncomputable def afterR (o : Res) (f : Ent → Sto → Prop) (g : Addr → List (Str × PyData) → Sto → Prop) : Prop := match o with
  | .ok r μ => f r μ
  | .rse C fs μ => g C fs μ
theorem ST.exprR (h : EVR X W e ρ μ o) (hr : afterR o (fun _ μ1 => ST X W nn rest ρ μ1 P) fun C fs μ1 => P (.rse ρ μ1 C fs)) (hs : swapsWith e none pos.line X.env = pure false := by rfl) : ST X W nn (.Expr e pos :: rest) ρ μ P := by
  intro w σ H D hn m s q
  refine ⟨_, pss_cons (ps_expr (p_ex (e := e)) hs) p_sx, ?_⟩
  refine h w σ H m s _ ?_
  cases o with
  | ok r μ1 => exact fun v H1 m1 f1 hv => hr w σ H1 D hn m1 (s.fr f1) fun o ho => (q o ho).step hn f1
  | rse C fs μ1 => exact fun od H1 m1 f1 hx => Fin.rse0 (q _ hr) m1 (s.fr f1) f1 hx
theorem ST.retR (h : EVR X W e ρ μ o) (hr : afterR o (fun r μ1 => P (.ret (frz nn μ1 r) (μ1.take nn))) fun C fs μ1 => P (.rse ρ μ1 C fs)) : ST X W nn (.Return (some e) pos :: rest) ρ μ P := by
  intro w σ H D hn m s q
  refine ⟨_, pss_cons (ps_ret (p_ex (e := e))) pss_never, ?_⟩
  refine h w σ H m s _ ?_
  cases o with
  | ok r μ1 => exact fun v H1 m1 f1 hv => q _ hr v H1 (m1.cut nn) f1 (val_frz m1 hv)
  | rse C fs μ1 => exact fun od H1 m1 f1 hx => Fin.rse0 (q _ hr) m1 (s.fr f1) f1 hx
end
noncomputable abbrev ConX := List Ent → Sto → Res → Prop
noncomputable def EndX (K : PySem.W.Frag) (w : Wd) (H : Hp) (Q : VK) (E : XK) : Res → Prop
  | .ok r μ' => ∀ v H', Mem K H' w μ' → Fr w.α H H' → Val K H' w v r → Q v H'
  | .rse C fs μ' => ∀ od H', Mem K H' w μ' → Fr w.α H H' → Xd H' w od fs → E (.ref C) od H'
noncomputable def SpX (K : PySem.W.Frag) (ps : List Str) (C : ConX) : Sp := fun vs H Q E => ∃ w μ rs o, Mem K H w μ ∧ Vas K H w vs rs ∧ rs.length = ps.length ∧ C rs μ o ∧ EndX K w H Q E o
structure CalX (P : Program) (w : World) (K : PySem.W.Frag) (mg : Str → Option Value) (base : Heap) (n : Str) (k : Nat) (ps : List Str) (C : ConX) : Prop where
  ex : ∃ f fd, FnOk P w K mg base (L2N.CX P w) k f fd ps (SpX K ps C) ∧ mg n = some (.ref f) ∧ PySem.W.keepIn K (.ref f) = true ∧ Binds K fd ps []
noncomputable def PostX (n : Nat) (o : Res) : Out → Prop
  | .ret r μ' => o = .ok r μ'
  | .rse _ μ' C fs => o = .rse C fs (μ'.take n)
  | .nx _ μ' => ∃ ν μ0, o = .ok Nn μ0 ∧ μ0.length = n ∧ μ' = μ0 ++ ν
  | _ => False
section
variable {w : World} {P : Program} {K : PySem.W.Frag} {base : Heap} {mg : Str → Option Value}
theorem fnx_mk {x qual : Str} {st : Stmt} {f : Addr} {fd : FuncData} {N ps : List Str} {k : Nat} {C : ConX} (F : Fun K x qual st f fd) (Sc : FnScope N ps (defScope st)) (hN : ps.length ≤ N.length)
    (body : ∀ (cdv : Value) (A : Around) (outer : List Env) (s : Shared) (H : Hp) (E : XK), Room k (A.deeper (envOfC qual (defScope st) s.heap.objs.size f cdv)) → ∀ rs μ o, rs.length = ps.length → C rs μ o →
      ST (cxOf (L2N.CX P w) P w K mg base N qual (defScope st) f cdv A outer s H E) (fun cls d _ H => E cls d H) μ.length (defBody st) (rs.map some ++ List.replicate (N.length - rs.length) none) μ (PostX μ.length o)) : FnOk P w K mg base (L2N.CX P w) (k + 1) f fd ps (SpX K ps C) := by
  refine okXN F Sc (fun vs H Q E h => ?_) (fun cdv A outer s H vs Q E hr h => ?_)
  · obtain ⟨w0, μ, rs, o, _, hv, hl, _⟩ := h
    rw [hv.1, hl]
  · obtain ⟨w0, μ, rs, o, m, hv, hl, hC, q⟩ := h
    have hb := body cdv A outer s H E hr rs μ o hl hC
    refine hb w0 _ H _ (Nat.le_of_eq m.len.symm) m (sl_start hv (by omega)) fun oo ho => ?_
    have hw : w0.cut μ.length = w0 := by
      show (⟨w0.α.take μ.length, w0.ξ⟩ : Wd) = w0
      rw [← m.len, List.take_length]
    have hwb : ∀ β, (w0.add β).cut μ.length = w0 := fun β => by
      show (⟨(w0.α ++ β).take μ.length, w0.ξ⟩ : Wd) = w0
      rw [← m.len, List.take_left]
    cases oo with
    | ret r2 μ2 =>
      have e : o = .ok r2 μ2 := ho
      subst e
      intro v H' m' f' hv'
      rw [hw] at m' hv'
      exact q v H' m' f' hv'
    | nx ρ2 μ2 =>
      obtain ⟨ν, μ0, rfl, hl0, rfl⟩ := ho
      intro β σ' H' m' s' f' hb'
      have mc := m'.cut μ.length
      rw [hwb, ← hl0, List.take_left] at mc
      exact q .non H' mc f' Dq.non
    | brk ρ2 μ2 => exact False.elim ho
    | ct ρ2 μ2 => exact False.elim ho
    | rse ρ2 μ2 C2 fs =>
      have e : o = .rse C2 fs (μ2.take μ.length) := ho
      subst e
      intro od β σ' H' m' s' f' hb' hx
      have mc := m'.cut μ.length
      rw [hwb] at mc
      refine q od H' mc f' (hx.sub fun b hb2 => ?_)
      rcases List.mem_append.mp hb2 with z | z
      · exact List.mem_append_left _ (List.mem_append_left _ z)
      · exact List.mem_append_right _ z
theorem Df.calX {x : Str} {st : Stmt} {N ps : List Str} {k : Nat} {C : ConX} (D : Df K mg x st) (Sc : FnScope N ps (defScope st))
    (hb : ∀ (kV doc pm : Value) (an : Option Addr) (cdv ct : Value) (us : List Value), us.length = ps.length → bindArgs (PySem.W.fnOf x x (defArgs st) (defBody st) (defScope st) .none kV doc pm an cdv ct) ⟨us, []⟩ = pure (ps.zip us))
    (hN : ps.length ≤ N.length)
    (body : ∀ (f : Addr) (cdv : Value) (A : Around) (outer : List Env) (s : Shared) (H : Hp) (E : XK), Room k (A.deeper (envOfC x (defScope st) s.heap.objs.size f cdv)) → ∀ rs μ o, C rs μ o →
      ST (cxOf (L2N.CX P w) P w K mg base N x (defScope st) f cdv A outer s H E) (fun cls d _ H => E cls d H) μ.length (defBody st) (rs.map some ++ List.replicate (N.length - rs.length) none) μ (PostX μ.length o)) : CalX P w K mg base x (k + 1) ps C := by
  obtain ⟨f, fd, F, hm⟩ := D.ex
  exact ⟨f, fd, fnx_mk F Sc hN fun cdv A outer s H E hr rs μ o _ hC => body f cdv A outer s H E hr rs μ o hC, hm, F.kp, F.binds hb⟩
end
section
variable {X : Cx} {W : WX} {ρ : REnv} {μ μ1 μ2 : Sto} {e : Expr} {es : List Expr} {pos p : Pos} {rs : List Ent} {r : Ent} {o : Res} {n : Str} {k nn : Nat} {ps : List Str} {P : Out → Prop} {rest : List Stmt}
theorem EVR.call {C : ConX} (F : CalX X.prog X.w X.K X.mg X.base n k ps C) (tk : L2N.Takes X W) (hr : Room k X.A) (ha : AV X (e :: es) ρ μ rs μ1) (hC : C rs μ1 o) (hl : rs.length = ps.length := by rfl)
    (hg : Gl X n := by rfl) (hdb : (n == ("__debug__" : Str)) = false := by decide) (he : starEach (e :: es) X.env = (false, eval e X.env) :: starEach es X.env := by rfl) (hpl : (backTo pos (starEach es X.env)).any (·.1) = false := by rfl) :
    EVR X W (.Call (.Name n p) (e :: es) [] pos) ρ μ o := by
  intro w σ H m s Q q
  obtain ⟨f, fd, G, hm, hk, hb⟩ := F.ex
  refine ⟨_, pe_callS (E := WE W) G hr hg hm hk hb (fun σ => L2N.passAt tk σ) (p_ax (e := e :: es)) hdb he hpl, ?_⟩
  refine ha w σ H m s _ fun vs H1 m1 f1 h1 => ?_
  refine ⟨w, μ1, rs, o, m1, h1, hl, hC, ?_⟩
  cases o with
  | ok r μ2 => exact fun v H2 m2 f2 h2 => q v H2 m2 (f1.trans f2) h2
  | rse C fs μ2 => exact fun od H2 m2 f2 h2 => q od H2 m2 (f1.trans f2) h2
end
noncomputable def spXI (C : Addr) (f : Str) : Sp := fun vs H Q _ => ∃ a v, vs = [.ref a, v] ∧ H a = some (exo a C none) ∧ ∀ dx, H dx = none → dx ≠ a → Q .non (upd (upd H dx (exd dx [(f, v)])) a (exo a C (some dx)))
structure ExcK (P : Program) (w : World) (K : PySem.W.Frag) (mg : Str → Option Value) (base : Heap) (n : Str) (C : Addr) (f : Str) : Prop where
  oex : OexC K C
  at_ : mg n = some (.ref C)
  noF : PySem.W.findIn K (.ref C) f = some none
  ini : ∃ fI fd, PySem.W.findIn K (.ref C) "__init__" = some (some (.ref fI)) ∧ PySem.W.typeIn K (.ref fI) = some (.type "function") ∧ FnOk P w K mg base CX0 1 fI fd ["self", f] (spXI C f) ∧ Binds K fd ["self", f] []
section
variable {X : Cx} {W : WX} {ρ : REnv} {μ μ1 : Sto} {e : Expr} {pos p pos' : Pos} {d : PyData} {n f : Str} {C : Addr} {nn k : Nat} {P : Out → Prop} {rest : List Stmt}
theorem exc_end {K : PySem.W.Frag} {H : Hp} {w : Wd} {a dx : Addr} {v : V} {o1 o2 o3 : HO} (m : Mem K H w μ) (hv : Val K H w v (.dat d)) (ha : H a = none) (hd : H dx = none) (hne : dx ≠ a) :
    Mem K (upd (L2.del (upd (upd (upd H a o1) dx o2) a o3) a) dx (.xd [(f, v)])) w μ ∧ Fr w.α H (upd (L2.del (upd (upd (upd H a o1) dx o2) a o3) a) dx (.xd [(f, v)])) ∧ Xd (upd (L2.del (upd (upd (upd H a o1) dx o2) a o3) a) dx (.xd [(f, v)])) w (some dx) [(f, d)] := by
  have hS : Same H (upd (L2.del (upd (upd (upd H a o1) dx o2) a o3) a) dx (.xd [(f, v)])) := fun b u e => by
    have n1 : b ≠ a := ne_of_none e ha
    have n2 : b ≠ dx := ne_of_none e hd
    rw [upd_ne n2, L2.del_ne n1, upd_ne n1, upd_ne n2, upd_ne n1]
    exact e
  exact ⟨m.same hS, Fr.of_same hS, [(f, v)], upd_same, m.freshA hd, rfl, .cons (dq_mono (Fr.of_same (S := w.α) hS).all _ _ hv) .nil⟩
theorem ST.raise (M : ExcK X.prog X.w X.K X.mg X.base n C f) (tk : L2N.Takes X W) (hr : Room k X.A) (ha : EV X e ρ μ (.dat d) μ1) (hP : P (.rse ρ μ1 C [(f, d)])) (hk : 2 ≤ k := by decide) (hc : X.calm = true := by rfl) (hg : Gl X n := by rfl)
    (hdb : (n == ("__debug__" : Str)) = false := by decide) (he : starEach [e] X.env = (false, eval e X.env) :: starEach [] X.env := by rfl) (hpl : (backTo pos (starEach [] X.env)).any (·.1) = false := by rfl) : ST X W nn (.Raise (some (.Call (.Name n p) [e] [] pos)) none pos' :: rest) ρ μ P := by
  intro w σ H D hn m s q
  obtain ⟨fI, fd, iC, tI, F, bi⟩ := M.ini
  refine ⟨_, pss_cons (L2N.ps_raise hc tk (pmk_oexN (Y := CX0) M.oex iC tI F (hr.mono hk) bi pass0 hg M.at_ (pa_cons (p_ex (e := e)) pa_nil he) hdb he hpl)) pss_never, ?_⟩
  refine ha w σ H m s _ fun v H1 m1 f1 hv => ?_
  refine ⟨by simp, fun a na => ⟨a, v, rfl, upd_same, fun dx hd hne => ⟨rfl, dx, [(f, v)], upd_same, ?_, ?_, ?_⟩⟩⟩
  · rw [upd_ne hne, upd_same]
  · rwa [upd_ne hne] at hd
  · have hd' : H1 dx = none := by rwa [upd_ne hne] at hd
    obtain ⟨m2, f2, x2⟩ := exc_end (f := f) (o1 := exo a C none) (o2 := exd dx [(f, v)]) (o3 := exo a C (some dx)) m1 hv na hd' hne
    exact Fin.rse0 (q _ hP) m2 ((s.fr f1).fr f2) (f1.trans f2) x2
end
end J
namespace J
open PySem PySem.Spec
open PyProof.Rows L2
section
variable {X : Cx} {W : WX} {n : Nat} {ρ : REnv} {μ μ1 : Sto} {P : Out → Prop} {c : Expr} {body rest : List Stmt} {pos : Pos} {k : Bool}
theorem ST.ifX (h : TV X c ρ μ k μ1) (h1 : k = true → ST X W n body ρ μ1 (thenP X W n rest P)) (h2 : k = false → ST X W n rest ρ μ1 P) : ST X W n (.If c body [] pos :: rest) ρ μ P := ST.iff h h1 fun z => ST.nil (h2 z)
end
theorem okXI {P : Program} {w : World} {K : PySem.W.Frag} {mg : Str → Option Value} {base : Heap} {C fI : Addr} {fd : FuncData} {qual f : Str} {st : Stmt} {p1 p2 p3 pos : Pos} (F : Fun K "__init__" qual st fI fd) (Sc : FnScope ["self", f] ["self", f] (defScope st)) (oe : OexC K C) (no : PySem.W.findIn K (.ref C) f = some none) (hb : defBody st = [.Assign [.Attribute (.Name "self" p1) f p2] (.Name f p3) pos])
    (hv : Vis (defScope st) f) (hv0 : Vis (defScope st) "self") (hd : (f == ("__debug__" : Str)) = false := by decide) (hcd : (f == ("__classdict__" : Str)) = false := by decide) : FnOk P w K mg base CX0 1 fI fd ["self", f] (spXI C f) := by
  refine F.ok Sc (fun vs H Q E h => ?_) (fun cdv A outer s H vs Q E hr h => ?_)
  · obtain ⟨a, v, rfl, _⟩ := h
    rfl
  · obtain ⟨a, v, rfl, ha, q⟩ := h
    rw [hb]
    refine ⟨_, pss_one (ps_ost (pe_var (i := 0) rfl hv0) (pe_var (i := 1) rfl hv hd hcd)), ?_⟩
    exact ⟨v, rfl, .ref a, rfl, a, C, rfl, oe, no, .inl ⟨ha, q⟩⟩
section
variable {X : Cx} {W : WX} {ρ : REnv} {μ μ1 : Sto} {e : Expr} {pos p kpos : Pos} {n f : Str} {C : Addr} {k : Nat} {ps : List Str} {d : PyData} {Chk : PyData → Option (Addr × List (Str × PyData)) → Prop} {o : Option (Addr × List (Str × PyData))}
theorem run_makeS {CX1 : CXT} {g : Addr} {fd : FuncData} {sp : Sp} {E : XK} {pins : List (Addr × Obj)} {σ : L2.St} {H : Hp} {s : Shared} {Q : VK} {us ws : List Value} {ks : List Str} {vs : List V} (mk : Mk X.K C g) (F : FnOk X.prog X.w X.K X.mg X.base CX1 k g fd ps sp) (hr : Room (k + 1) X.A)
    (hb : ∀ s : Shared, ∀ u : Value, X.K.In s.heap → BindsTo s fd ⟨u :: us, ks.zip ws⟩ (ps.zip (u :: (us ++ ws)))) (hx : PassesAt CX1 X σ E) (I : Inv X pins σ H s) (r : Vals vs (us ++ ws))
    (h : ∀ x dx, H x = none → H dx = none → dx ≠ x → sp (.ref x :: vs) (upd (upd H dx (.own x)) x (.ins C dx [])) (fun v H2 => v = .non ∧ Q (.ref x) H2) E) : wpAny (model X.prog X.w) X.A (call (.ref C) us (ks.zip ws)) (EP X pins σ Q) X.xe s := by
  have q0 := h (s.heap.objs.size + 1) s.heap.objs.size (I.hok.fresh (Nat.le_succ _)) (I.hok.fresh (Nat.le_refl _)) (Nat.ne_of_lt (Nat.lt_succ_self _))
  have J2 := Inv.made (C := C) I
  have rr : Vals (V.ref (s.heap.objs.size + 1) :: vs) (Value.ref (s.heap.objs.size + 1) :: (us ++ ws)) := .cons rfl r
  refine wpAny_call (make_map (f := g) I.kIn mk.makes mk.init (beq_iff_eq.mp mk.fn) (codeAny_mono (F.run _ X.stack _ _
    ⟨Value.ref (s.heap.objs.size + 1) :: us, ks.zip ws⟩ _ _ _ E (hr.make C us (ks.zip ws)) (J2.env0.make C us (ks.zip ws)) (hb _ _ J2.kIn) rr q0) fun z s' y => ?_))
  cases z with
  | error ee => exact hx pins _ _ ee s' J2 y
  | ok fl =>
    cases fl with
    | ret u =>
      obtain ⟨v, H', J3, rv, ev, q3⟩ := J2.after y
      subst ev
      exact ⟨rv, ⟨V.ref (s.heap.objs.size + 1), H', J3, rfl, q3⟩⟩
    | next => exact y.elim
    | brk => exact y.elim
    | cont => exact y.elim
end
end J
namespace J
open PySem PySem.Spec
open PyProof.Rows L2
theorem count_rel {y : V} : ∀ {ys : List V} {us : List Value}, Vals ys us → ys.all flatV = true → us.countP (eqU y) = ys.countP fun z => eqV z y
  | _, _, .nil, _ => rfl
  | z :: ys, u :: us, .cons r t, f => by
    rw [List.all_cons, Bool.and_eq_true] at f
    have ih := count_rel (y := y) t f.2
    rw [List.countP_cons, List.countP_cons, ih, eqU_of r f.1]
theorem mt_cntF {X : Cx} : MtR X "list.count" (fun x xs H Q => ∃ (c : Addr) (ys : List V) (y : V), x = V.ref c ∧ xs = [y] ∧ SqL X.K H c ys ∧ flatV y = true ∧ ys.all flatV = true ∧ Q (.int ((ys.countP fun z => eqV z y : Nat) : Int)) H) := by
  intro pins s0 σ H x xs v us Q I r1 r2 hh
  obtain ⟨c, ys, y, rfl, rfl, seq, fy, fys, hq⟩ := hh
  cases r1
  obtain ⟨u, rfl, ru⟩ := vals1 r2
  obtain ⟨items, rv, ⟨⟨cl, od, da, sl⟩, n, ho, hc, hdn, hd⟩, hlen⟩ := I.list seq
  simp only at hc hd
  subst hc hd
  refine call_meets PySem.F.slot_list_count ⟨_, ho, rfl⟩ PySem.F.entry_list_count (PySem.F.args_list_count_2 _ _) (SeqAt.list_countAt c items.toArray n od sl u (eqU y)) ⟨ho, fun z hz => mem_eqAt ru fy rv fys z (by simpa using hz), ?_⟩
  have ec := count_rel (y := y) rv fys
  refine ⟨.int ((ys.countP fun z => eqV z y : Nat) : Int), H, I.tok _, ⟨s0.toks, ?_⟩, hq⟩
  rw [← ec]
theorem dq_count {H : Hp} {v : V} {d : PyData} (h : Dq H v d) : ∀ {vs : List V} {ds : List PyData}, DqAll H vs ds → (vs.countP fun z => eqV z v) = ds.countP fun z => eqF z d
  | [], _, g => by cases g; rfl
  | u :: vs, _, g => by
    cases g with
    | cons g1 g2 => rw [List.countP_cons, List.countP_cons, dq_count h g2, dq_eqF g1 h]
section
variable {X : Cx} {W : WX} {ρ : REnv} {μ μ1 μ2 : Sto} {o e : Expr} {d : PyData} {ds : List PyData} {pos apos p p2 : Pos} {k : Nat}
theorem EV.cnt (ho : EV X o ρ μ (Ls ds) μ1) (he : EV X e ρ μ1 (.dat d) μ2) (h1 : flatD d = true) (h2 : ds.all flatD = true) (hb : attributeBase o "count" X.env (eval o X.env) = eval o X.env := by rfl)
    (hfew : ((backTo pos (starEach [e] X.env)).all (fun x => !x.1) && (backToKw pos (keywordEach [] X.env)).all (fun x => x.1.isSome) && decide ([e].length + ([] : List Keyword).length + (if ([] : List Keyword).isEmpty then 0 else 1) < 30)) = true := by rfl)
    (hl : (apos.endLine == pos.line) = true := by rfl) (hs : starEach [e] X.env = (false, eval e X.env) :: starEach [] X.env := by rfl) (hp : (backTo pos (starEach [] X.env)).any (·.1) = false := by rfl) : EV X (.Call (.Attribute o "count" apos) [e] [] pos) ρ μ (Ii ((ds.countP fun z => eqF z d : Nat) : Int)) μ2 := by
  intro w σ H m s Q q
  refine ⟨_, pe_bm PySem.F.plainAttrs_list PySem.F.slot_list_count PySem.F.type_list_count mt_cntF (p_ex (e := o)) (pa_cons (p_ex (e := e)) pa_nil hs) hb hfew hl hs hp, ?_⟩
  refine ho w σ H m s _ fun v H1 m1 f1 h3 => ?_
  have h3' := h3
  cases h3 with
  | @lst c vs _ hc hd =>
    refine ⟨.inl ⟨rfl, vs, SqL.of (dl_some hc).2⟩, ?_⟩
    refine he w σ H1 m1 (s.fr f1) _ fun u H2 m2 f2 h4 => ?_
    have h5 : Val X.K H2 w (.ref c) (Ls ds) := h3'.fr f2
    cases h5 with
    | @lst _ vs2 _ hc2 hd2 => exact ⟨c, vs2, u, rfl, rfl, SqL.of (dl_some hc2).2, by rw [dq_flat h4, h1], by rw [dq_allFlat hd2, h2], by rw [dq_count h4 hd2]; exact q _ H2 m2 (f1.trans f2) (Dq.int _)⟩
theorem EV.idx {j : Nat} {z : PyData} (ho : EV X o ρ μ (Ls ds) μ1) (he : EV X e ρ μ1 (.dat d) μ2) (h1 : flatD d = true) (h2 : ds.all flatD = true) (hj : ds[j]? = some z) (hz : eqF z d = true) (hno : ∀ (m : Nat) (y : PyData), m < j → ds[m]? = some y → eqF y d = false) (hb : attributeBase o "index" X.env (eval o X.env) = eval o X.env := by rfl)
    (hfew : ((backTo pos (starEach [e] X.env)).all (fun x => !x.1) && (backToKw pos (keywordEach [] X.env)).all (fun x => x.1.isSome) && decide ([e].length + ([] : List Keyword).length + (if ([] : List Keyword).isEmpty then 0 else 1) < 30)) = true := by rfl)
    (hl : (apos.endLine == pos.line) = true := by rfl) (hs : starEach [e] X.env = (false, eval e X.env) :: starEach [] X.env := by rfl) (hp : (backTo pos (starEach [] X.env)).any (·.1) = false := by rfl) : EV X (.Call (.Attribute o "index" apos) [e] [] pos) ρ μ (Ii (j : Int)) μ2 := by
  intro w σ H m s Q q
  refine ⟨_, pe_bm PySem.F.plainAttrs_list PySem.F.slot_list_index PySem.F.type_list_index mt_index (p_ex (e := o)) (pa_cons (p_ex (e := e)) pa_nil hs) hb hfew hl hs hp, ?_⟩
  refine ho w σ H m s _ fun v H1 m1 f1 h3 => ?_
  have h3' := h3
  cases h3 with
  | @lst c vs _ hc hd =>
    refine ⟨.inl ⟨rfl, vs, SqL.of (dl_some hc).2⟩, ?_⟩
    refine he w σ H1 m1 (s.fr f1) _ fun u H2 m2 f2 h4 => ?_
    have h5 : Val X.K H2 w (.ref c) (Ls ds) := h3'.fr f2
    cases h5 with
    | @lst _ vs2 _ hc2 hd2 =>
      obtain ⟨zv, hzv, hzd⟩ := dqAll_get hd2 hj
      refine ⟨c, vs2, u, j, zv, rfl, rfl, SqL.of (dl_some hc2).2, by rw [dq_flat h4, h1], by rw [dq_allFlat hd2, h2], hzv, by rw [dq_eqF hzd h4, hz], fun m y hm hy => ?_, q _ H2 m2 (f1.trans f2) (Dq.int _)⟩
      obtain ⟨dy, hdy, hyd⟩ := dqAll_getV hd2 hy
      rw [dq_eqF hyd h4]
      exact hno m dy hm hdy
structure Sho (d : PyData) : Prop where
  lay : d.canLay0 = true
  shw : d.showable = true
  dep : d.depth ≤ 60
  len : rlen d ≤ 10000000
  int : ∀ i : Int, d = .int i → i.natAbs.log2 < 1920
theorem Shw.sho {d : PyData} (h : Shw d) : Sho d := ⟨h.lay, h.shw, h.dep, h.len, fun i z => by have := h.seq; rw [z] at this; cases this⟩
theorem EV.reprX (T : X.mg "repr" = none) (hgd : X.A.guards = some []) (hun : X.A.units + 100 < cLine) (ho : EV X o ρ μ (.dat d) μ1) (hd : Sho d) (hg : Gl X "repr" := by rfl) (hs : starEach [o] X.env = (false, eval o X.env) :: starEach [] X.env := by rfl) : EV X (.Call (.Name "repr" p) [o] [] pos) ρ μ (Ss d.shown) μ1 := by
  intro w σ H m s Q q
  have hsz : d.shown.length ≤ sizeLine := Nat.le_trans (Nat.le_trans (shown_le d hd.lay) hd.len) (by decide)
  have cr : CallR X (.builtin "repr") (fun vs H Q => ∃ v, vs = [v] ∧ Dp X.K H v d ∧ Dq H v d ∧ Q (.str d.shown) H) := by
    intro pins s σ H xs us Q I r h
    obtain ⟨v, rfl, hdp, hdq, hq⟩ := h
    obtain ⟨u, rfl, ru⟩ := vals1 r
    have big : ∀ a : Addr, v = V.ref a → wpAny (model X.prog X.w) X.A (PySem.call (.builtin "repr") [u]) (EP X pins σ Q) X.xe s := fun a ea => by
      subst ea
      obtain rfl : u = Value.ref a := ru
      obtain ⟨as, rd⟩ := Dp.reads I d _ _ hdp (show RelV (V.ref a) (Value.ref a) from rfl)
      refine repr_of_reads' rd hd.shw (fun z => by rw [noDict0 d hd.lay] at z; cases z) hgd ?_ (fun _ _ e => e) (fun h' u tk kp => ?_) hsz
      · have h1 := hd.dep
        omega
      · exact ⟨.str d.shown, H, I.kept (t' := tk) kp, ⟨u, rfl⟩, hq⟩
    cases hdq with
    | non =>
      obtain rfl : u = Value.none := ru
      exact PySem.P.repr_of_none ⟨.str _, H, I.tok _, ⟨_, rfl⟩, by rw [PyData.shown_none] at hq; exact hq⟩
    | bl b =>
      obtain rfl : u = Value.bool b := ru
      exact PySem.P.repr_of_bool ⟨.str _, H, I.tok _, ⟨_, rfl⟩, by rw [PyData.shown_bool] at hq; exact hq⟩
    | int i =>
      obtain ⟨t, rfl⟩ := ru
      exact PySem.P.repr_of_int (hd.int i rfl) ⟨.str _, H, I.tok _, ⟨_, rfl⟩, by rw [PyData.shown_int] at hq; exact hq⟩
    | str x =>
      obtain ⟨t, rfl⟩ := ru
      exact PySem.P.repr_of_str ⟨.str _, H, I.tok _, ⟨_, rfl⟩, by rw [PyData.shown_str] at hq; exact hq⟩ (by rw [PyData.shown_str] at hsz; exact hsz)
    | lst _ _ => exact big _ rfl
    | tup _ _ => exact big _ rfl
    | ins _ _ _ =>
      have := hd.lay
      simp [PyData.canLay0] at this
    | dic _ _ _ =>
      have := hd.lay
      simp [PyData.canLay0] at this
  refine ⟨_, pe_callB cr hg T (by decide +kernel) (pa_cons (p_ex (e := o)) pa_nil hs) (by decide) (by decide) hs (by rfl), ?_⟩
  refine ho w σ H m s _ fun v H1 m1 f1 h1 => ?_
  have h1' : Dq (dl H1 w.all) v d := h1
  exact ⟨v, rfl, Dq.dp dl_same _ _ h1' hd.lay, dq_mono dl_same _ _ h1', q _ H1 m1 f1 (Dq.str _)⟩
end
end J
namespace J
open PySem PySem.Spec
open PyProof.Rows L2
noncomputable def ClsAt (mg : Str → Option Value) (n : Str) (cv : Value) : Prop := (n == ("__debug__" : Str)) = false ∧ ((∃ T, cv = .ref T ∧ mg n = some (.ref T)) ∨ (∃ T : String, cv = .type T ∧ mg n = none ∧ bootBuiltins n = some (.type T) ∧ n ≠ "__name__"))
structure ExE (X : Cx) (D : Addr) (a d : Addr) : Prop where
  cls : ExcC X.K D
  xfc : XfC X.K D
  pin : ∃ oe : Obj, (a, oe) ∈ X.pn ∧ Zc (.ref D) (some d) oe ∧ ∃ vs, oe.data = .fields vs
section
variable {X : Cx} {ρ : REnv} {μ μ1 : Sto} {a d D : Addr} {fs : List (Str × PyData)} {o : Expr} {n f : Str} {cv : Value} {b : Bool} {pos p p2 : Pos} {dt : PyData}
theorem call_isP (M : ExE X D a d) : CallR X (.builtin "isinstance") (fun xs H Q => ∃ (c : V) (cv : Value) (b : Bool), (∃ ws : List (Str × V), H d = some (.xd ws)) ∧ xs = [.ref a, c] ∧ (∀ u, RelV c u → u = cv) ∧ PySem.W.kitOne X.K (.ref D) cv = some b ∧ Q (.bl b) H) := by
  intro pins s0 σ H xs us Q I r hh
  obtain ⟨c, cv, b, ⟨ws, hx⟩, rfl, hcv, hk, hq⟩ := hh
  obtain ⟨u1, u2, rfl, r1, r2⟩ := vals2 r
  obtain rfl : u1 = Value.ref a := r1
  obtain rfl := hcv _ r2
  obtain ⟨oe, hp, hz, vs, hd⟩ := M.pin
  have C := M.cls
  obtain ⟨hget, _⟩ := I.pin (a, oe) (List.mem_append_left _ hp)
  have hx' : ObjOk X.prog X.w H s0.heap d (.xd ws) := I.hok d _ hx
  obtain ⟨mA, hns, hr⟩ := hx'
  obtain ⟨od, ho, _⟩ := lookIn_ns hns
  have J0 : PySem.W.InstAt s0.heap a oe D (some od) := ⟨hget, hz.1, by unfold PySem.W.notCls; rw [hd] <;> rfl, by rw [hz.2]; exact ho⟩
  have hcl : (PySem.W.clsIn X.K D).isSome = true := by
    obtain ⟨cd, hc, _⟩ := PySem.W.any_some C.hd
    rw [hc]
    rfl
  exact PySem.W.kia_one (PySem.W.kitx_exc hcl C.hg C.hk C.hs C.ha C.hn C.ht C.hm) I.kIn J0 hk (fun z => nomatch z) fun tk => ⟨.bl b, H, I.kept (t' := tk) fun _ _ z => z, rfl, hq⟩
theorem EV.isE (M : ExE X D a d) (T : X.mg "isinstance" = none) (N : ClsAt X.mg n cv) (hk : PySem.W.kitOne X.K (.ref D) cv = some b) (ho : EV X o ρ μ (.exc a d fs) μ1) (hg : Gl X "isinstance" := by rfl) (hgT : Gl X n := by rfl)
    (he : starEach [o, .Name n p2] X.env = (false, eval o X.env) :: starEach [.Name n p2] X.env := by rfl) (he2 : starEach [.Name n p2] X.env = (false, eval (.Name n p2) X.env) :: starEach [] X.env := by rfl) (hpl : (backTo pos (starEach [.Name n p2] X.env)).any (·.1) = false := by rfl) : EV X (.Call (.Name "isinstance" p) [o, .Name n p2] [] pos) ρ μ (Bb b) μ1 := by
  intro w σ H m s Q q
  obtain ⟨hdb, ⟨c, rfl, hm⟩ | ⟨c, rfl, hm, hv, hn⟩⟩ := N
  · refine ⟨_, pe_callB (call_isP M) hg T (by decide +kernel) (pa_cons (p_ex (e := o)) (pa_cons (pe_glob (v := .ref c) hgT hm rfl hdb) pa_nil he2) he) (by decide) (by decide) he hpl, ?_⟩
    refine ho w σ H m s _ fun v H1 m1 f1 h1 => ?_
    exact ⟨.ref c, .ref c, b, (h1.2.elim fun ws z => ⟨ws, (dl_some z.1).2⟩), by rw [h1.1], fun u hu => hu, hk, q _ H1 m1 f1 (Dq.bl b)⟩
  · refine ⟨_, pe_callB (call_isP M) hg T (by decide +kernel) (pa_cons (p_ex (e := o)) (pa_cons (pe_bltn (v := .ty c) hgT hm hv rfl hn hdb) pa_nil he2) he) (by decide) (by decide) he hpl, ?_⟩
    refine ho w σ H m s _ fun v H1 m1 f1 h1 => ?_
    exact ⟨.ty c, .type c, b, (h1.2.elim fun ws z => ⟨ws, (dl_some z.1).2⟩), by rw [h1.1], fun u hu => hu, hk, q _ H1 m1 f1 (Dq.bl b)⟩
theorem pe_xp {te : TE} (M : ExE X D a d) (hno : PySem.W.findIn X.K (.ref D) f = some none) (he : PE X o te) (hb : attributeBase o f X.env (eval o X.env) = eval o X.env := by rfl) :
    PE X (.Attribute o f pos) (fun σ H Q => te σ H fun x H1 => x = .ref a ∧ ∃ (ws : List (Str × V)) (v : V), H1 d = some (.xd ws) ∧ ws.lookup f = some v ∧ Q v H1) := by
  refine ⟨fun pins s0 σ H Q I hh => ?_⟩
  refine attr_of hb (thn (he.run pins s0 σ H _ I hh) fun u s1 hy => ?_)
  obtain ⟨x, H1, I1, rx, ex, ws, v, ea, lk, hq⟩ := hy
  subst ex
  obtain rfl : u = Value.ref a := rx
  obtain ⟨oe, hp, hz, vs, hd⟩ := M.pin
  have T := M.xfc
  obtain ⟨ha, _⟩ := I1.pin (a, oe) (List.mem_append_left _ hp)
  have hx : ObjOk X.prog X.w H1 s1.heap d (.xd ws) := I1.hok d _ ea
  obtain ⟨mA, hns, hr⟩ := hx
  obtain ⟨od, ho, hl⟩ := lookIn_ns hns
  obtain ⟨u, hu, ru⟩ := RelO.some_of (v := v) (o := mA f) (by rw [← lk]; exact hr f)
  have J0 : PySem.W.InstAt s1.heap a oe D (some od) := ⟨ha, hz.1, by unfold PySem.W.notCls; rw [hd] <;> rfl, by rw [hz.2]; exact ho⟩
  exact HandSPX.exc_get I1.kIn J0 T.ga T.gg T.exC (PySem.W.findObj_own T.hdC hno rfl (by rw [hl, hu])) (handed_of ru) ⟨v, H1, I1.tok _, ru, hq⟩
theorem EV.excF (M : ExE X D a d) (hno : PySem.W.findIn X.K (.ref D) f = some none) (ho : EV X o ρ μ (.exc a d fs) μ1) (hl : fs.lookup f = some dt) (hb : attributeBase o f X.env (eval o X.env) = eval o X.env := by rfl) : EV X (.Attribute o f pos) ρ μ (.dat dt) μ1 := by
  intro w σ H m s Q q
  refine ⟨_, pe_xp M hno (p_ex (e := o)) hb, ?_⟩
  refine ho w σ H m s _ fun v H1 m1 f1 h1 => ?_
  obtain ⟨rfl, ws, hx, hn, hd⟩ := h1
  obtain ⟨u, hu, hq⟩ := lk_dq hn hd hl
  exact ⟨rfl, ws, u, (dl_some hx).2, hu, q u H1 m1 f1 hq⟩
end
structure FnE (P : Program) (w : World) (K : PySem.W.Frag) (mg : Str → Option Value) (base : Heap) (k : Nat) (f : Addr) (fd : FuncData) (x : Str) (sp : Addr × Obj → Hp → VK → Prop) : Prop where
  go : ∀ (B : Around) (st : List Env) (t : Shared) (G : Hp) (R : VK) (p : Addr × Obj), B.guards = some [] → L2H.RoomH k B → L2H.PinOk st G t p → Env0 P w K mg base B st t G → BindsTo t fd ⟨[.ref p.1], []⟩ ([x].zip [.ref p.1]) → sp p G R → codeAny (model P w) B (.call (.ref f) ⟨[.ref p.1], []⟩) (CR CX0 st P w G t R E0) t
section
variable {w : World} {P : Program} {K : PySem.W.Frag} {base : Heap} {mg : Str → Option Value}
theorem fnE_of {k : Nat} {f : Addr} {nm0 qual : Str} {prm : Arguments} {bd : List Stmt} {scp : Scope} {dV kV doc pm cdv ct oc : Value} {an od : Option Addr} {osl : Array (Option Value)} {N : List Str} {x : Str} {sp : Addr × Obj → Hp → VK → Prop}
    (look : K.lookup f = some ⟨oc, od, .func (PySem.W.fnOf nm0 qual prm bd scp dV kV doc pm an cdv ct), osl⟩) (code : PySem.W.codeIn K cdv qual = true) (Sc : FnScope N [x] scp)
    (hb : ∀ (B : Around) (st : List Env) (t : Shared) (G : Hp) (R : VK) (p : Addr × Obj), B.guards = some [] → L2H.RoomH k (B.deeper (envOfC qual scp t.heap.objs.size f cdv)) → sp p G R → ∃ T, PSs (L2H.cxH CX0 P w K mg base N qual scp f cdv B st t G E0 p) bd T ∧ T { nx := fun _ G' => R .non G', rt := R } (L2.start N [.ref p.1]) G) :
    FnE P w K mg base (k + 1) f (PySem.W.fnOf nm0 qual prm bd scp dV kV doc pm an cdv ct) x sp := by
  refine ⟨fun B st t G R p hgd room hpin e0 bind hsp => ?_⟩
  have inK : K.In t.heap := e0.mod.kin.keeps fun a o z => (e0.bs a o z).1
  have noL : t.heap.NoLimit := e0.mod.nolimit.keeps fun a o z => (e0.bs a o z).1
  refine codeAny_call_function room.depth (inK _ _ look) rfl Sc.co Sc.gen rfl (PySem.W.codeRec_of inK code) (bind _ _ _ _ ?_)
  refine wpAny_newFunctionEnv_cells Sc.kind (fun ⟨n, v⟩ hy => ?_) fun env he t1 y => ?_
  · rcases Sc.par n (List.of_mem_zip hy).1 with z | z
    · exact Or.inl z
    · exact Or.inr ⟨z, PySem.W.cellsFrom_some _ _ _ (Or.inl z)⟩
  subst he
  refine ⟨noL.keeps y.toInCall.keep, codeAny_func ?_⟩
  obtain ⟨T, hT, hr⟩ := hb B st t G R p hgd (room.deeper _) hsp
  have I : Inv (L2H.cxH CX0 P w K mg base N qual scp f cdv B st t G E0 p) [] (L2.start N [.ref p.1]) G t1 := L2H.inv_startH Sc hpin e0 rfl (.cons rfl .nil) y
  have done : ∀ {σ' : L2.St} {G' : Hp} {v : V} {u : Value} {t' : Shared}, Inv (L2H.cxH CX0 P w K mg base N qual scp f cdv B st t G E0 p) [] σ' G' t' → RelV v u → R v G' → CE st P w G t R u t' := fun {σ' G' v u t'} J0 rv hq => ⟨v, G', J0.os, J0.bare, J0.base, J0.hok, rv, hq⟩
  refine wpAny_mono (hT.run [] t1 (L2.start N [.ref p.1]) G _ I hr) (fun fl t' hs => ?_) fun e t' hs => hs
  match fl, hs with
  | .ret u, hs =>
    obtain ⟨v, σ', G', J0, rv, hq⟩ := hs
    exact done J0 rv hq
  | .next, hs =>
    obtain ⟨σ', G', J0, hq⟩ := hs
    exact done (v := V.non) (u := Value.none) J0 rfl hq
  | .brk, hs =>
    obtain ⟨_, _, _, hq⟩ := hs
    exact hq.elim
  | .cont, hs =>
    obtain ⟨_, _, _, hq⟩ := hs
    exact hq.elim
theorem funE {x qual n : Str} {st : Stmt} {f : Addr} {fd : FuncData} {N : List Str} {k : Nat} {sp : Addr × Obj → Hp → VK → Prop} (F : Fun K n qual st f fd) (Sc : FnScope N [x] (defScope st))
    (hb : ∀ (cdv : Value) (B : Around) (o : List Env) (t : Shared) (G : Hp) (R : VK) (p : Addr × Obj), B.guards = some [] → L2H.RoomH k (B.deeper (envOfC qual (defScope st) t.heap.objs.size f cdv)) → sp p G R →
      ∃ T, PSs (L2H.cxH CX0 P w K mg base N qual (defScope st) f cdv B o t G E0 p).nox (defBody st) T ∧ T { nx := fun _ G' => R .non G', rt := R } (L2.start N [.ref p.1]) G) : FnE P w K mg base (k + 1) f fd x sp := by
  obtain ⟨oc, od, kV, doc, pm, an, cdv, ct, osl, rfl, lk, hcd⟩ := F.ex
  refine fnE_of lk hcd Sc fun B o t G R p hgd room hsp => ?_
  obtain ⟨T, hT, hq⟩ := hb cdv B o t G R p hgd room hsp
  exact ⟨T, hT.nox, hq⟩
end
theorem pe_callE {X : Cx} {a : Addr} {oe : Obj} {pn : List (Addr × Obj)} {k : Nat} {f : Addr} {fd : FuncData} {x n y : Str} {i : Nat} {sp : Addr × Obj → Hp → VK → Prop} {pos p p2 : Pos} (F : FnE X.prog X.w X.K X.mg X.base k f fd x sp) (hgd : X.A.guards = some []) (hr : L2H.RoomH k X.A) (hg : Gl X n) (hm : X.mg n = some (.ref f)) (hk : PySem.W.keepIn X.K (.ref f) = true) (hb : Binds X.K fd [x] [])
    (hN : X.N[i]? = some y) (hv : Vis X.env.scope y) (hdb : (n == ("__debug__" : Str)) = false := by decide) (hd : (y == ("__debug__" : Str)) = false := by decide) (hcd : (y == ("__classdict__" : Str)) = false := by decide) (he : starEach [.Name y p2] (X.suite a ((a, oe) :: pn)).env = (false, eval (.Name y p2) (X.suite a ((a, oe) :: pn)).env) :: starEach [] (X.suite a ((a, oe) :: pn)).env := by rfl) (hpl : (backTo pos (starEach [] (X.suite a ((a, oe) :: pn)).env)).any (·.1) = false := by rfl) :
    PE (X.suite a ((a, oe) :: pn)) (.Call (.Name n p) [.Name y p2] [] pos) (fun σ H Q => σ[i]? = some (some (.ref a)) ∧ sp (a, oe) H Q) := by
  refine ⟨fun pins s0 σ H Q I hh => ?_⟩
  obtain ⟨hσ, hsp⟩ := hh
  refine wpAny_Call_Name_kw (ld_glob I hg hm ?_ hdb)
  refine PySem.W.callWith_K (h₀ := X.base) I.ok.mod.kin hk (thn ((pa_cons (pe_var (pos := p2) (X := X.suite a ((a, oe) :: pn)) (i := i) hN hv hd hcd) pa_nil he).run pos pins s0 σ H (fun vs H1 => vs = [.ref a] ∧ H1 = H) I ⟨_, hσ, rfl, rfl⟩) fun us s1 ⟨vs, H1, I1, r, ev, eH⟩ => ⟨I1.kIn, ?_⟩) he hpl
  subst ev
  subst eH
  obtain ⟨u, rfl, ru⟩ := vals1 r
  obtain rfl : u = Value.ref a := ru
  have b := hb s1 [.ref a] I1.kIn rfl
  rw [List.append_nil] at b
  have P1 := I1.pin (a, oe) (List.mem_append_left _ List.mem_cons_self)
  have hpin : L2H.PinOk X.stack H1 s1 (a, oe) := ⟨P1.1, P1.2.1, fun hm => (List.mem_cons.mp (I1.stkSub a hm)).elim P1.2.2.1 P1.2.2.2.1, P1.2.2.2.2⟩
  refine wpAny_call (codeAny_mono (F.go (X.suite a ((a, oe) :: pn)).A X.stack s1 H1 Q (a, oe) hgd ⟨hr.dp, hr.un⟩ hpin I1.env0 b hsp) fun z s2 hy => ?_)
  match z, hy with
  | .ok (.ret u), hy => exact I1.after hy
end J
namespace J
open PySem PySem.Spec
open PyProof.Rows L2
theorem flies_on {B g g' : Heap} {fr : List Env} {x : Addr} {Z : Obj → Prop} (f : HandSPX.FlyingZ B fr x Z g) (k : ∀ b o, g.get? b = some o → g'.get? b = some o) : HandSPX.FlyingZ B fr x Z g' := by
  obtain ⟨p1, p2, p3, oe, vs, T, oT, ts, q1, q2, q3, q4, q5, q6, q7, q8, q9⟩ := f
  exact ⟨fun b o e => k b o (p1 b o e), p2, p3.of_keeps (fun b o e _ => ⟨o, k b o e, rfl⟩), oe, vs, T, oT, ts, k _ _ q1, q2, q3, q4, q5, q6, k _ _ q7, q8, q9⟩
noncomputable def wAs3 (K : PySem.W.Frag) (cs : List Value) (i : Nat) (ts : Addr → Value → Option Addr → TS) (D : Ends) : WX := fun cls d σ H => PySem.W.exmAny K cls cs = some true ∧ ∀ a, H a = none →
  ts a cls d { nx := fun σ' H' => D.nx (σ'.set i none) H', rt := D.rt, bk := fun σ' H' => D.bk (σ'.set i none) H', ct := fun σ' H' => D.ct (σ'.set i none) H' } (σ.set i (some (.ref a))) H
section
variable {X : Cx} {n x1 x2 x3 : Str} {c1 c2 c3 : Addr} {i : Nat} {body suite : List Stmt} {b₀ : Stmt} {p1 p2 p3 tp pos pos' : Pos} {tk : Nat} {tb : WX → TS} {ts : Addr → Value → Option Addr → TS}
theorem ps_try3 (hst : X.stack = X.env :: X.outer) (hfr : X.env.frame = some X.env.locals) (nd : X.N.Nodup) (hi : X.N[i]? = some n) (hloc : X.env.kindOf n = some .local)
    (hg1 : Gl X x1) (m1 : X.mg x1 = some (.ref c1)) (d1 : (x1 == ("__debug__" : Str)) = false) (hg2 : Gl X x2) (m2 : X.mg x2 = some (.ref c2)) (d2 : (x2 == ("__debug__" : Str)) = false) (hg3 : Gl X x3) (m3 : X.mg x3 = some (.ref c3)) (d3 : (x3 == ("__debug__" : Str)) = false)
    (hb : ∀ (W : WX) (pn : List (Addr × Obj)) (xe : Value → Shared → Prop), Takes (X.tr pn xe) W → PassesOwn (model X.prog X.w) X.A X.env xe → PSs (X.tr pn xe) body (tb W))
    (hsu : ∀ (a : Addr) (oe : Obj) (cls : Value) (d : Option Addr) (pn : List (Addr × Obj)), Zc cls d oe → (∃ vs, oe.data = .fields vs) → PSs (X.suite a ((a, oe) :: pn)) (b₀ :: suite) (ts a cls d)) :
    PS X (.Try body [.ExceptHandler (some (.Tuple [.Name x1 p1, .Name x2 p2, .Name x3 p3] tk tp)) (some n) (b₀ :: suite) pos'] [] [] pos) (fun D σ H => tb (wAs3 X.K [.ref c1, .ref c2, .ref c3] i ts D) D σ H) := by
  refine ⟨fun pins s0 σ H D I hh => ?_⟩
  have ok0 := I.ok
  have frames : X.A.frames = some (X.env :: X.outer) := ok0.frames.trans (by rw [hst])
  refine wpAny_Try_except ?_
  refine wpAny_mono ((hb (wAs3 X.K [.ref c1, .ref c2, .ref c3] i ts D) (X.pn ++ pins) (fun v t1 => wpAny (model X.prog X.w) X.A (noteFrame v X.env) (fun _ t2 => wpAny (model X.prog X.w) X.A (setFlight v none) (fun _ t3 =>
    wpAny (model X.prog X.w) X.A (handleBy v X.env [.ExceptHandler (some (.Tuple [.Name x1 p1, .Name x2 p2, .Name x3 p3] tk tp)) (some n) (b₀ :: suite) pos']) (SP X pins D) X.xe t3) X.xe t2) X.xe t1) (fun u t hx => ?_) PassesOwn.looking).run [] s0 σ H D (I.toTry _) hh) (fun fl t hy => ?_) (fun v t hv => hv)
  · obtain ⟨a, B, sI, pins', σ1, H1, cls, d, rfl, J0, nb, up, sky, na, eo, ag, hm, hgo⟩ := hx
    have J1 : Inv X pins σ1 H1 sI := J0.ofTry ok0
    have sky1 : Sky B (X.env :: X.outer) a (Zc cls d) X.env.locals t.heap := by rw [← hst]; exact sky
    show wpAny (model X.prog X.w) X.A (noteFrame (.ref a) X.env) _ _ _
    refine Sky.land Zc.steady frames hfr sky1 fun g3 fl3 up3 => ?_
    have L3 : Inv X pins σ1 H1 { t with heap := g3 } := J1.landed nb fl3.1 (up.trans up3) eo ag
    obtain ⟨o3, v3, he3, hz3, hd3⟩ := fl3.there
    have apart : ∀ {g : Heap} {o : Obj} {vs : Array Value}, g.FunFrames B (X.env :: X.outer) → g.get? a = some o → o.data = .fields vs → a ∉ frs (X.env :: X.outer) := fun {g o vs} ff e dd hin => by
      obtain ⟨_, o', e', hne⟩ := ff.mem hin
      rw [e] at e'
      cases e'
      exact hne _ dd
    have out3 := apart fl3.2.2.1 he3 hd3
    have nL : a ≠ X.env.locals := fun z => out3 (List.mem_filterMap.mpr ⟨X.env, List.mem_cons_self, by rw [hfr, z]⟩)
    have nF : a ∉ X.fs := fun hin => by
      obtain ⟨ev, hev, q⟩ := List.mem_filterMap.mp hin
      exact out3 (List.mem_filterMap.mpr ⟨ev, List.mem_cons_of_mem _ hev, q⟩)
    have S3 := L3.suite he3 hd3 na nL nF
    refine wpAny_handleBy_cons (codeAny_handlers_test ?_) (by intro q; cases q)
    -- the tuple of the classes
    refine wpAny_Tuple_spliced (Calls.spliced_cons (ld_glob (X := X.suite a ((a, o3) :: (X.pn ++ pins))) S3 hg1 m1 (Calls.spliced_cons (ld_glob (X := X.suite a ((a, o3) :: (X.pn ++ pins))) S3 hg2 m2 (Calls.spliced_cons (ld_glob (X := X.suite a ((a, o3) :: (X.pn ++ pins))) S3 hg3 m3 (Calls.spliced_nil ⟨(show 3 ≤ sizeLine by decide), ?_⟩) d3)) d2)) d1))
    have kp : ∀ b o, g3.get? b = some o → (g3.push { cls := .type "tuple", data := .seq [Value.ref c1, Value.ref c2, Value.ref c3].toArray }).get? b = some o := fun b o e => Heap.get?_push_of_some _ e
    have fl4 := flies_on fl3 kp
    have look : PySem.W.Looks (model X.prog X.w) (g3.push { cls := .type "tuple", data := .seq [Value.ref c1, Value.ref c2, Value.ref c3].toArray }) (typeOf (.ref a)) cls := fun A Q E t' k q => wpAny_typeOf_ref (k _ _ (kp _ _ he3)) (by rw [hz3.1]; exact q)
    have yes := PySem.W.exm_tup3 (M := model X.prog X.w) (tp := g3.objs.size) (L3.kIn.keeps kp) look (Heap.get?_push_size _ rfl) hm
    refine yes.here ?_
    refine codeAny_handlers_suite_as ?_
    refine HandSPX.lands_againZ fl4 fun g5 fl5 up5 => ?_
    have up4 : g3.UpToSlots (g3.push { cls := .type "tuple", data := .seq [Value.ref c1, Value.ref c2, Value.ref c3].toArray }) := Heap.UpToSlots.of_keeps kp
    have L5 : Inv X pins σ1 H1 { t with heap := g5 } := J1.landed nb fl5.1 (((up.trans up3).trans up4).trans up5) eo ag
    obtain ⟨o5, v5, he5, hz5, hd5⟩ := fl5.there
    have S5 := L5.suite he5 hd5 na nL nF
    refine store_ok (X := X.suite a ((a, o5) :: (X.pn ++ pins))) (v := .ref a) S5 nd hi (Or.inl hloc) rfl (fun t6 S6 => ?_) (.inr hloc)
    refine wpAny_mono ((hsu a o5 cls d (X.pn ++ pins) hz5 ⟨_, hd5⟩).run [] t6 _ H1 _ S6 (hgo a na)) (fun fl t7 hz => ?_) (fun _ _ z => False.elim z)
    have close : ∀ {σ7 : L2.St} {H7 : Hp} {R : Shared → Prop}, Inv (X.suite a ((a, o5) :: (X.pn ++ pins))) [] σ7 H7 t7 → (∀ t8, Inv X pins (σ7.set i none) H7 t8 → R t8) → wpAny (model X.prog X.w) X.A (do bindName X.env n .none; unbindBehindTheSuite X.env n pos') (fun _ t8 => R t8) X.xe t7 := fun S7 hR => gone_ok (S7.unsuite ok0) nd hi hloc hR
    match fl, hz with
    | .next, hz =>
      obtain ⟨σ7, H7, S7, q7⟩ := hz
      exact close S7 fun t8 J8 => ⟨_, _, J8, q7⟩
    | .brk, hz =>
      obtain ⟨σ7, H7, S7, q7⟩ := hz
      exact close S7 fun t8 J8 => ⟨_, _, J8, q7⟩
    | .cont, hz =>
      obtain ⟨σ7, H7, S7, q7⟩ := hz
      exact close S7 fun t8 J8 => ⟨_, _, J8, q7⟩
    | .ret u, hz =>
      obtain ⟨v7, σ7, H7, S7, r7, q7⟩ := hz
      exact close S7 fun t8 J8 => ⟨_, _, _, J8, r7, q7⟩
  · match fl, hy with
    | .next, hy =>
      obtain ⟨σ1, H1, J1, q⟩ := hy
      exact wpAny_execs_nil ⟨σ1, H1, J1.ofTry ok0, q⟩
    | .brk, hy =>
      obtain ⟨σ1, H1, J1, q⟩ := hy
      exact ⟨σ1, H1, J1.ofTry ok0, q⟩
    | .cont, hy =>
      obtain ⟨σ1, H1, J1, q⟩ := hy
      exact ⟨σ1, H1, J1.ofTry ok0, q⟩
    | .ret u, hy =>
      obtain ⟨v, σ1, H1, J1, r, q⟩ := hy
      exact ⟨v, σ1, H1, J1.ofTry ok0, r, q⟩
end
end J
namespace J
open PySem PySem.Spec
open PyProof.Rows L2
noncomputable def mkThen (r : Ent) (μ μ' : Sto) : Option (Addr × List (Str × PyData)) → Res
  | none => .ok r μ'
  | some cf => .rse cf.1 cf.2 μ
noncomputable def LamB (K : PySem.W.Frag) (mg : Str → Option Value) (base : Heap) (x : Str) : Prop := ∃ c P, lamTab K x = some (c, P) ∧ LamX.TabB base mg c P ∧ x ∈ lamDefs ∧ ∀ p ∈ tabsK K, p.1 = P → p.2 = x ++ ".<locals>." ++ "<lambda>"
structure LamD (K : PySem.W.Frag) (mg : Str → Option Value) (base : Heap) (x : Str) (cdv : Value) : Prop where
  ex : ∃ c P, lamTab K x = some (c, P) ∧ cdv = .ref c ∧ LamX.TabB base mg c P ∧ x ∈ lamDefs ∧ ∀ p ∈ tabsK K, p.1 = P → p.2 = x ++ ".<locals>." ++ "<lambda>"
section
variable {w : World} {P : Program} {K : PySem.W.Frag} {base : Heap} {mg : Str → Option Value}
theorem funGL {x : Str} {st : Stmt} {f : Addr} {fd : FuncData} {N ps : List Str} {k : Nat} {sp : Sp} (F : Fun K x x st f fd) (hm : mg x = some (.ref f)) (inB : K.In base) (nsB : base.Ns mainGlobals mg) (B : LamB K mg base x) (Sc : FnScope N ps (defScope st)) (many : ∀ xs G R E, sp xs G R E → xs.length = ps.length)
    (hb : ∀ (cdv : Value) (B : Around) (o : List Env) (t : Shared) (G : Hp) (xs : List V) (R : VK) (E : XK), LamD K mg base x cdv → B.guards = some [] → Room k (B.deeper (envOfC x (defScope st) t.heap.objs.size f cdv)) → sp xs G R E →
      ∃ T, PSs (cxOf CX0 P w K mg base N x (defScope st) f cdv B o t G E).nox (defBody st) T ∧ T { nx := fun _ G' => R .non G', rt := R } (L2.start N xs) G) : FnG P w K mg base (k + 1) f fd ps sp := by
  obtain ⟨oc, od, kV, doc, pm, an, cdv, ct, osl, rfl, lk, hcd⟩ := F.ex
  obtain ⟨c, Pt, ht, TB, hx, hu⟩ := B
  have ec : cdv = .ref c := PySem.W.law_code inB nsB (lamTab_in ht) hm (inB _ _ lk) rfl
  refine fnG_of lk hcd Sc many fun B o t G R E hgd room hsp z => ?_
  obtain ⟨T, hT, hq⟩ := hb cdv B o t G R E hgd ⟨c, Pt, ht, ec, TB, hx, hu⟩ room hsp z
  exact ⟨T, hT.nox, hq⟩
theorem Df.calGL {x : Str} {st : Stmt} {N ps : List Str} {k : Nat} {C : Con} (D : Df K mg x st) (inB : K.In base) (nsB : base.Ns mainGlobals mg) (B : LamB K mg base x) (Sc : FnScope N ps (defScope st))
    (hb : ∀ (kV doc pm : Value) (an : Option Addr) (cdv ct : Value) (us : List Value), us.length = ps.length → bindArgs (PySem.W.fnOf x x (defArgs st) (defBody st) (defScope st) .none kV doc pm an cdv ct) ⟨us, []⟩ = pure (ps.zip us))
    (hN : ps.length ≤ N.length)
    (body : ∀ (f : Addr) (cdv : Value) (A : Around) (outer : List Env) (s : Shared) (H : Hp) (E : XK), LamD K mg base x cdv → A.guards = some [] → Room k (A.deeper (envOfC x (defScope st) s.heap.objs.size f cdv)) → ∀ rs μ r μ', C rs μ r μ' →
      ST (cxOf CX0 P w K mg base N x (defScope st) f cdv A outer s H E).nox W0 μ.length (defBody st) (rs.map some ++ List.replicate (N.length - rs.length) none) μ (PostR r μ')) : CalG P w K mg base x (k + 1) ps C := by
  obtain ⟨f, fd, F, hm⟩ := D.ex
  refine ⟨f, fd, funGL F hm inB nsB B Sc (fun xs G R E h => ?_) (fun cdv B o t G xs R E hL hgd room h => ?_), hm, F.kp, F.binds hb⟩
  · obtain ⟨w0, μ, rs, r, μ', _, hv, hl, _⟩ := h
    exact hv.1.trans hl
  · obtain ⟨w0, μ, rs, r, μ', m, hv, hl, hC, q⟩ := h
    have hw : w0.cut μ.length = w0 := by
      show (⟨w0.α.take μ.length, w0.ξ⟩ : Wd) = w0
      rw [← m.len, List.take_length]
    refine body f cdv B o t G E hL hgd room rs μ r μ' hC w0 _ G _ (Nat.le_of_eq m.len.symm) m (sl_start hv (by omega)) fun oo ho => ?_
    match oo, ho with
    | .ret r2 μ2, ho =>
      obtain ⟨rfl, rfl⟩ := ho
      intro v G' m' f' hv'
      rw [hw] at m' hv'
      exact q v G' m' f' hv'
end
section
variable {X : Cx} {ρ : REnv} {μ μ1 μ2 : Sto} {e : Expr} {es : List Expr} {p pos : Pos} {rs : List Ent} {r : Ent} {n : Str} {k : Nat} {ps : List Str}
theorem EV.callG {C : Con} (F : CalG X.prog X.w X.K X.mg X.base n k ps C) (hgd : X.A.guards = some []) (hr : Room k X.A) (ha : AV X (e :: es) ρ μ rs μ1) (hC : C rs μ1 r μ2) (hl : rs.length = ps.length := by rfl)
    (hg : Gl X n := by rfl) (hdb : (n == ("__debug__" : Str)) = false := by decide) (he : starEach (e :: es) X.env = (false, eval e X.env) :: starEach es X.env := by rfl) (hpl : (backTo pos (starEach es X.env)).any (·.1) = false := by rfl) :
    EV X (.Call (.Name n p) (e :: es) [] pos) ρ μ r μ2 := by
  intro w σ H m s Q q
  obtain ⟨f, fd, G, hm, hk, hb⟩ := F.ex
  refine ⟨tCall (SpV X.K ps C) [] E0 (AX X (e :: es)), ⟨fun pins s0 σ0 H0 Q0 I h => ?_⟩, ?_⟩
  · refine wpAny_Call_Name_kw (ld_glob I hg hm ?_ hdb)
    refine PySem.W.callWith_K (h₀ := X.base) I.ok.mod.kin hk (thn ((p_ax (e := e :: es)).run pos pins s0 σ0 H0 _ I h) fun us s1 ⟨vs, H1, I1, rv, z⟩ => ⟨I1.kIn, ?_⟩) he hpl
    have z' : SpV X.K ps C (vs ++ []) H1 Q0 E0 := z
    rw [List.append_nil] at z'
    exact runG G hgd hr hb I1 rv z'
  · refine ha w σ H m s _ fun vs H1 m1 f1 h1 => ?_
    exact ⟨w, μ1, rs, r, μ2, m1, by rw [List.append_nil]; exact h1, hl, hC, fun v H2 m2 f2 h2 => q v H2 m2 (f1.trans f2) h2⟩
end
end J
namespace J
open PySem PySem.Spec L2
noncomputable def top (i : Nat) : Stmt := PySem.Challenge.pw_joinrounds_k22_errors_of_rows_in_order.main.body.getD i (.Pass ⟨0, 0, 0, 0⟩)
noncomputable abbrev sNotABookInit : Stmt := inClass (top 7) 0
noncomputable abbrev sInvalidPiecesInit : Stmt := inClass (top 9) 0
noncomputable abbrev sUnknownPlanInit : Stmt := inClass (top 11) 0
noncomputable abbrev sIsInteger : Stmt := top 31
noncomputable abbrev sIsName : Stmt := top 32
noncomputable abbrev sIsPiece : Stmt := top 33
noncomputable abbrev sIsGoal : Stmt := top 34
noncomputable abbrev sLastOf : Stmt := top 35
noncomputable abbrev sGoalSpan : Stmt := top 36
noncomputable abbrev sReadDigit : Stmt := top 37
noncomputable abbrev sReadClass : Stmt := top 38
noncomputable abbrev sReadWay : Stmt := top 39
noncomputable abbrev sPutClause : Stmt := top 40
noncomputable abbrev sReadClause : Stmt := top 41
noncomputable abbrev sSharePlace : Stmt := top 42
noncomputable abbrev sFitTogether : Stmt := top 43
noncomputable abbrev sReadRound : Stmt := top 44
noncomputable abbrev sCanStand : Stmt := top 45
noncomputable abbrev sAreRounds : Stmt := top 47
noncomputable abbrev sIsPlan : Stmt := top 48
noncomputable abbrev sCheckPlans : Stmt := top 49
noncomputable abbrev sPlanText : Stmt := top 50
noncomputable abbrev sInit : Stmt := inClass (top 53) 0
noncomputable abbrev sNames : Stmt := inClass (top 53) 3
noncomputable abbrev sFindPlan : Stmt := inClass (top 53) 4
noncomputable abbrev sPlan : Stmt := inClass (top 53) 5
noncomputable abbrev sStr : Stmt := inClass (top 53) 8
noncomputable abbrev sRepr : Stmt := inClass (top 53) 9
noncomputable abbrev sCheckBook : Stmt := top 54
noncomputable abbrev sPlanOf : Stmt := top 55
noncomputable abbrev sCheckPieces : Stmt := top 58
noncomputable abbrev sGoalTexts : Stmt := top 59
noncomputable abbrev sRowInit : Stmt := inClass (top 64) 0
noncomputable abbrev sRowWords : Stmt := inClass (top 64) 3
noncomputable abbrev sLCell : Stmt := top 66
noncomputable abbrev sLPurse : Stmt := top 67
noncomputable abbrev sLDraw : Stmt := top 68
noncomputable abbrev sLPick : Stmt := top 69
noncomputable abbrev sLTag : Stmt := top 70
noncomputable abbrev sLTags : Stmt := top 71
noncomputable abbrev sLGoal : Stmt := top 72
noncomputable abbrev sLDeed : Stmt := top 73
noncomputable abbrev sLOvers : Stmt := top 74
noncomputable abbrev sLRound : Stmt := top 75
noncomputable abbrev sLMates : Stmt := top 76
noncomputable abbrev sLClause : Stmt := top 77
noncomputable abbrev sLLine : Stmt := top 78
noncomputable abbrev sLAim : Stmt := top 79
noncomputable abbrev sLTold : Stmt := top 80
noncomputable abbrev sLError : Stmt := top 81
noncomputable abbrev sLCaught : Stmt := top 82
noncomputable abbrev sLPieces : Stmt := top 83
noncomputable abbrev sLAsked : Stmt := top 84
noncomputable abbrev sLRight : Stmt := top 85
noncomputable abbrev sLaw : Stmt := top 86
end J
namespace J
open PySem PySem.Spec
open PyProof.Rows L2
end J
namespace J
open PySem PySem.Spec
open PyProof.Rows L2
end J
namespace J
open PySem PySem.Spec
open PyProof.Rows L2
noncomputable def atomK : PyData → Bool
  | .int _ => true
  | .str x => PyData.strOk x
  | _ => false
mutual
noncomputable def lay2 : PyData → Bool
  | .none | .bool _ | .int _ => true
  | .str x => PyData.strOk x
  | .list xs | .tuple xs => lay2All xs
  | .dict kvs => lay2Kv kvs
noncomputable def lay2All : List PyData → Bool
  | [] => true
  | x :: xs => lay2 x && lay2All xs
noncomputable def lay2Kv : List (PyData × PyData) → Bool
  | [] => true
  | (k, v) :: r => atomK k && lay2 v && lay2Kv r
end
noncomputable def DkAll (H : Hp) : List (Key × V) → List (PyData × PyData) → Prop
  | [], [] => True
  | (k, v) :: r, (kd, vd) :: r2 => kd = keyD k ∧ Dq H v vd ∧ DkAll H r r2
  | _, _ => False
theorem dkAll_of {H : Hp} : ∀ {kvs : List (Key × V)} {ds : List PyData}, DqAll H (kvs.map (·.2)) ds → DkAll H kvs (((kvs.map (·.1)).map keyD).zip ds)
  | [], ds, h => by
    cases h
    trivial
  | (k, v) :: r, ds, h => by
    cases h with
    | cons h1 h2 => exact ⟨rfl, h1, dkAll_of h2⟩
theorem dq_dict {H : Hp} {v : V} {l : List (PyData × PyData)} (h : Dq H v (.dict l)) (hl : lay2Kv l = true) : ∃ a kvs, v = .ref a ∧ H a = some (.dK kvs) ∧ DkAll H kvs l := by
  generalize e : PyData.dict l = d at h
  cases h with
  | @dic a kvs ks ds hx hn hd =>
    injection e with e
    subst e
    subst hn
    exact ⟨a, kvs, rfl, hx, dkAll_of hd⟩
  | ins hx hn hd =>
    injection e with e
    subst e
    simp [lay2Kv, atomK] at hl
  | _ => cases e
section
variable {X : Cx} {pins : List (Addr × Obj)} {σ : L2.St} {H : Hp} {s : Shared}
theorem readsKeys : ∀ {kvs : List (Key × V)} {l : List (PyData × PyData)} {vs : List (Key × Value)} {es : List DictEntry}, DkAll H kvs l → KV kvs vs → Pairs (mixKind X.prog X.w) es vs → ReadsAll s.heap (es.map (·.key)) (l.map (·.1)) []
  | [], [], _, _, _, h1, h2 => by
    cases h1
    cases h2
    exact .nil
  | (k, v) :: r, (kd, vd) :: r2, _, _, ⟨e, _, h⟩, .cons h1 h1', .cons h2 h2' h2'' => by
    have ih := readsKeys h h1' h2''
    have e1 : k = _ := h1.1
    subst e
    rw [← h1.1] at h2
    rcases keyIs_shape h2 with ⟨i, t, rfl, e3⟩ | ⟨x, t, rfl, e3⟩
    · exact ReadsAll.cons (as := []) (bs := []) (by show Reads s.heap _ (PyData.int i) []; dsimp only; rw [e3]; exact Reads.int i t) ih
    · exact ReadsAll.cons (as := []) (bs := []) (by show Reads s.heap _ (PyData.str x) []; dsimp only; rw [e3]; exact Reads.str x t) ih
  | [], _ :: _, _, _, h, _, _ => h.elim
  | _ :: _, [], _, _, h, _, _ => h.elim
theorem rk_atom {d : PyData} {u : Value} {P : Program} {w : World} {h : Heap} (r : Reads h u d []) (hs : d.showable = true) (hd : d.hasDict = false) (hz : d.shown.length ≤ sizeLine) : ∃ as bs, Reads h u d as ∧ ReadAtMost h d.depth bs ∧ ReprK P w bs h d.depth u d.shown :=
  (ReprK.of_reads r hs (fun z => by rw [hd] at z; cases z) hz).elim fun bs z => ⟨_, bs, r, z.1, z.2⟩
mutual
theorem Dq.rk (I : Inv X pins σ H s) : ∀ (d : PyData) (v : V) (u : Value), Dq H v d → lay2 d = true → d.showable = true → d.shown.length ≤ sizeLine → RelV v u → ∃ as bs, Reads s.heap u d as ∧ ReadAtMost s.heap d.depth bs ∧ ReprK X.prog X.w bs s.heap d.depth u d.shown
  | .none, _, _, h, _, hs, hz, r => by
    cases h
    cases r
    exact rk_atom Reads.none hs rfl hz
  | .bool b, _, _, h, _, hs, hz, r => by
    cases h
    cases r
    exact rk_atom (Reads.bool b) hs rfl hz
  | .int i, _, _, h, _, hs, hz, r => by
    cases h
    obtain ⟨t, rfl⟩ := r
    exact rk_atom (Reads.int i t) hs rfl hz
  | .str x, _, _, h, _, hs, hz, r => by
    cases h
    obtain ⟨t, rfl⟩ := r
    exact rk_atom (Reads.str x t) hs rfl hz
  | .list ds, _, _, h, c, hs, hz, r => by
    have hz2 : (listText (PyData.shownAll ds)).length ≤ sizeLine := by simpa only [PyData.shown] using hz
    simp only [lay2] at c
    simp only [PyData.showable] at hs
    cases h with
    | lst hl ha =>
      cases r
      obtain ⟨its, rv, ⟨o, n, ho, hc, _, hd⟩, _⟩ := I.list (SqL.of hl)
      obtain ⟨as, bs, hr, hb, hk⟩ := DqAll.rk I ds _ its ha c hs (fun t ht => Nat.le_trans (listText_mem_le ht) hz2) rv
      have R := Reads.list ho hc hd hr
      have hn := not_mem_of_deeper R (n := PyData.depthAll ds) (by simp only [PyData.depth]; omega) hb
      refine ⟨_, _, R, ReadAtMost.cons R (by simp only [PyData.depth]; omega) hb, ?_⟩
      show ReprK _ _ _ _ (PyData.depthAll ds + 1) _ (listText (PyData.shownAll ds))
      match its, ds, hr, hd, hk, hn with
      | [], [], _, hd, _, _ =>
        rw [show listText (PyData.shownAll []) = ("[]" : Str) by rw [PyData.shownAll_nil, listText_nil]]
        exact ReprK.listEmpty ho hc hd
      | x :: l, ds, _, hd, hk, hn => exact ReprK.list ho hc hd hn (by have := hk.length_eq; simpa using this) fun i y e => hk.item i y (by simpa using e)
  | .tuple ds, _, _, h, c, hs, hz, r => by
    have hz2 : (tupleText (PyData.shownAll ds)).length ≤ sizeLine := by simpa only [PyData.shown] using hz
    simp only [lay2] at c
    simp only [PyData.showable] at hs
    cases h with
    | tup hl ha =>
      cases r
      obtain ⟨its, rv, ⟨o, ho, hc, n, hd⟩, _⟩ := I.tuple (SqT.of hl)
      obtain ⟨as, bs, hr, hb, hk⟩ := DqAll.rk I ds _ its ha c hs (fun t ht => Nat.le_trans (tupleText_mem_le ht) hz2) rv
      have R := Reads.tuple ho hc hd hr
      have hn := not_mem_of_deeper R (n := PyData.depthAll ds) (by simp only [PyData.depth]; omega) hb
      refine ⟨_, _, R, ReadAtMost.cons R (by simp only [PyData.depth]; omega) hb, ?_⟩
      show ReprK _ _ _ _ (PyData.depthAll ds + 1) _ (tupleText (PyData.shownAll ds))
      exact ReprK.tuple ho hc hd hn hk
  | .dict l, _, _, h, c, hs, hz, r => by
    have hz2 : (dictText (PyData.shownKv l)).length ≤ sizeLine := by simpa only [PyData.shown] using hz
    simp only [lay2] at c
    simp only [PyData.showable] at hs
    obtain ⟨a, kvs, rfl, hx, hk⟩ := dq_dict h c
    cases r
    obtain ⟨_, hm, vs, rel, o, es, ep, ho, hex, hdat, _, hp, _⟩ := dk_of I.hok hx
    obtain ⟨s1, s2⟩ := PyData.showableKv_split l hs
    have hkey := readsKeys (s := s) hk rel hp
    obtain ⟨b1, hb1, k1⟩ := ReprAllK.of_readsAll (prog := X.prog) (w := X.w) hkey s1 (fun _ => List.not_mem_nil) fun t ht => by
      obtain ⟨p, hp2, hl⟩ := PyData.shownKv_key_le l t ht
      exact Nat.le_trans hl (Nat.le_trans (dictText_mem_le hp2) hz2)
    obtain ⟨as, b2, hr, hb2, k2⟩ := DkAll.rk I l kvs vs es.toList hk c s2 (fun t ht => by
      obtain ⟨p, hp2, hl⟩ := PyData.shownKv_val_le l t ht
      exact Nat.le_trans hl (Nat.le_trans (dictText_mem_le hp2) hz2)) rel hp
    have R := Reads.dict ho hex.1 hdat hkey hr
    have hb := (hb1.mono (PyData.depthAll_keys_le l)).append (hb2.mono (PyData.depthAll_vals_le l))
    have hn := not_mem_of_deeper R (n := PyData.depthKv l) (by simp only [PyData.depth]; omega) hb
    refine ⟨_, _, R, ReadAtMost.cons R (by simp only [PyData.depth]; omega) hb, ?_⟩
    show ReprK _ _ _ _ (PyData.depthKv l + 1) _ (dictText (PyData.shownKv l))
    have e1 := k1.more_le (as' := b1 ++ b2) (fun b z => List.mem_append_left _ z) (PyData.depthAll_keys_le l)
    have e2 := k2.more_le (as' := b1 ++ b2) (fun b z => List.mem_append_right _ z) (PyData.depthAll_vals_le l)
    rw [PyData.shownKv_eq]
    exact ReprK.dict ho hex.1 hdat hm hn (ReprEntriesK.of_two es.toList _ _ e1 e2)
theorem DqAll.rk (I : Inv X pins σ H s) : ∀ (ds : List PyData) (vs : List V) (us : List Value), DqAll H vs ds → lay2All ds = true → PyData.showableAll ds = true → (∀ t ∈ PyData.shownAll ds, t.length ≤ sizeLine) → Vals vs us → ∃ as bs, ReadsAll s.heap us ds as ∧ ReadAtMost s.heap (PyData.depthAll ds) bs ∧ ReprAllK X.prog X.w bs s.heap (PyData.depthAll ds) us (PyData.shownAll ds)
  | [], _, _, h, _, _, _, r => by
    cases h
    cases r
    exact ⟨_, [], ReadsAll.nil, fun _ z => absurd z List.not_mem_nil, by rw [PyData.shownAll_nil]; exact .nil⟩
  | d :: ds, _, _, h, c, hs, hz, r => by
    simp only [lay2All, Bool.and_eq_true] at c
    simp only [PyData.showableAll, Bool.and_eq_true] at hs
    cases h with
    | cons h1 h2 =>
      cases r with
      | cons r1 r2 =>
        obtain ⟨a1, b1, q1, m1, k1⟩ := Dq.rk I d _ _ h1 c.1 hs.1 (hz _ (by rw [PyData.shownAll_cons]; exact List.mem_cons_self)) r1
        obtain ⟨a2, b2, q2, m2, k2⟩ := DqAll.rk I ds _ _ h2 c.2 hs.2 (fun t ht => hz t (by rw [PyData.shownAll_cons]; exact List.mem_cons_of_mem _ ht)) r2
        have l1 : d.depth ≤ PyData.depthAll (d :: ds) := by simp only [PyData.depthAll]; omega
        have l2 : PyData.depthAll ds ≤ PyData.depthAll (d :: ds) := by simp only [PyData.depthAll]; omega
        refine ⟨_, b1 ++ b2, ReadsAll.cons q1 q2, (m1.mono l1).append (m2.mono l2), ?_⟩
        rw [PyData.shownAll_cons]
        exact .cons ((k1.more fun b z => List.mem_append_left _ z).level_le l1) (k2.more_le (fun b z => List.mem_append_right _ z) l2)
theorem DkAll.rk (I : Inv X pins σ H s) : ∀ (l : List (PyData × PyData)) (kvs : List (Key × V)) (vs : List (Key × Value)) (es : List DictEntry), DkAll H kvs l → lay2Kv l = true → PyData.showableAll (l.map (·.2)) = true → (∀ t ∈ PyData.shownAll (l.map (·.2)), t.length ≤ sizeLine) → KV kvs vs → Pairs (mixKind X.prog X.w) es vs →
    ∃ as bs, ReadsAll s.heap (es.map (·.val)) (l.map (·.2)) as ∧ ReadAtMost s.heap (PyData.depthAll (l.map (·.2))) bs ∧ ReprAllK X.prog X.w bs s.heap (PyData.depthAll (l.map (·.2))) (es.map (·.val)) (PyData.shownAll (l.map (·.2)))
  | [], [], _, _, _, _, _, _, h1, h2 => by
    cases h1
    cases h2
    exact ⟨_, [], ReadsAll.nil, fun _ z => absurd z List.not_mem_nil, by rw [List.map_nil, PyData.shownAll_nil]; exact .nil⟩
  | (kd, vd) :: r2, (k, v) :: r, _, _, ⟨e, hv, h⟩, c, hs, hz, .cons h1 h1', .cons h2 h3 h2'' => by
    simp only [lay2Kv, Bool.and_eq_true] at c
    simp only [List.map_cons, PyData.showableAll, Bool.and_eq_true] at hs
    obtain ⟨a1, b1, q1, m1, k1⟩ := Dq.rk I vd v _ hv c.1.2 hs.1 (hz _ (by rw [List.map_cons, PyData.shownAll_cons]; exact List.mem_cons_self)) h1.2
    obtain ⟨a2, b2, q2, m2, k2⟩ := DkAll.rk I r2 r _ _ h c.2 hs.2 (fun t ht => hz t (by rw [List.map_cons, PyData.shownAll_cons]; exact List.mem_cons_of_mem _ ht)) h1' h2''
    have l1 : vd.depth ≤ PyData.depthAll (vd :: r2.map (·.2)) := by simp only [PyData.depthAll]; omega
    have l2 : PyData.depthAll (r2.map (·.2)) ≤ PyData.depthAll (vd :: r2.map (·.2)) := by simp only [PyData.depthAll]; omega
    rw [← h3] at q1 k1
    refine ⟨_, b1 ++ b2, ReadsAll.cons q1 q2, (m1.mono l1).append (m2.mono l2), ?_⟩
    rw [List.map_cons, List.map_cons, PyData.shownAll_cons]
    exact .cons ((k1.more fun b z => List.mem_append_left _ z).level_le l1) (k2.more_le (fun b z => List.mem_append_right _ z) l2)
  | [], _ :: _, _, _, h, _, _, _, _, _ => h.elim
  | _ :: _, [], _, _, h, _, _, _, _, _ => h.elim
end
end
mutual
noncomputable def rlen2 : PyData → Nat
  | .none => 4
  | .bool _ => 5
  | .int i => ((toString i : String) : Str).length
  | .str x => 10 * x.length + 2
  | .list xs => 3 + rlen2All xs
  | .tuple xs => 3 + rlen2All xs
  | .dict kvs => 2 + rlen2Kv kvs
noncomputable def rlen2All : List PyData → Nat
  | [] => 0
  | x :: xs => rlen2 x + 2 + rlen2All xs
noncomputable def rlen2Kv : List (PyData × PyData) → Nat
  | [] => 0
  | (k, v) :: r => rlen2 k + 2 + rlen2 v + 2 + rlen2Kv r
end
theorem shown_k {k : PyData} (h : atomK k = true) : k.shown.length ≤ rlen2 k := by
  cases k with
  | int i => rw [PyData.shown_int]; exact Nat.le_refl _
  | str x =>
    rw [PyData.shown_str]
    exact StrLaws.reprText_len x (strOk_lt h)
  | _ => cases h
mutual
theorem shown_le2 : ∀ d : PyData, lay2 d = true → d.shown.length ≤ rlen2 d
  | .none, _ => by rw [PyData.shown_none]; decide
  | .bool b, _ => by rw [PyData.shown_bool]; cases b <;> decide
  | .int i, _ => by rw [PyData.shown_int]; exact Nat.le_refl _
  | .str x, h => by
    rw [PyData.shown_str]
    simp only [lay2] at h
    exact StrLaws.reprText_len x (strOk_lt h)
  | .list xs, h => by
    simp only [lay2] at h
    have h1 := shownAll_le2 xs h
    have h2 := join_sum ", " (PyData.shownAll xs)
    rw [PyData.shown_list, strLen_append, strLen_append]
    have e1 : ((("[" : String) : Str)).length = 1 := by decide
    have e2 : ((("]" : String) : Str)).length = 1 := by decide
    have e3 : (((", " : String) : Str)).length = 2 := by decide
    rw [e3] at h2
    simp only [rlen2]
    omega
  | .tuple xs, h => by
    simp only [lay2] at h
    have h1 := shownAll_le2 xs h
    have h2 := join_sum ", " (PyData.shownAll xs)
    rw [PyData.shown_tuple, strLen_append, strLen_append]
    have e1 : ((("(" : String) : Str)).length = 1 := by decide
    have e2 : ((((if xs.length == 1 then ",)" else ")" : String) : Str))).length ≤ 2 := by split <;> decide
    have e3 : (((", " : String) : Str)).length = 2 := by decide
    rw [e3] at h2
    simp only [rlen2]
    omega
  | .dict l, h => by
    simp only [lay2] at h
    have h1 := shownKv_le2 l h
    have h2 := join_sum ", " (PyData.shownKv l)
    rw [PyData.shown_dict, strLen_append, strLen_append]
    have e1 : ((("{" : String) : Str)).length = 1 := by decide
    have e2 : ((("}" : String) : Str)).length = 1 := by decide
    have e3 : (((", " : String) : Str)).length = 2 := by decide
    rw [e3] at h2
    simp only [rlen2]
    omega
theorem shownAll_le2 : ∀ xs : List PyData, lay2All xs = true → ((PyData.shownAll xs).map fun y => y.length + 2).sum ≤ rlen2All xs
  | [], _ => by rw [PyData.shownAll_nil]; exact Nat.zero_le _
  | x :: xs, h => by
    simp only [lay2All, Bool.and_eq_true] at h
    have h1 := shown_le2 x h.1
    have h2 := shownAll_le2 xs h.2
    rw [PyData.shownAll_cons, List.map_cons, List.sum_cons]
    simp only [rlen2All]
    omega
theorem shownKv_le2 : ∀ l : List (PyData × PyData), lay2Kv l = true → ((PyData.shownKv l).map fun y => y.length + 2).sum ≤ rlen2Kv l
  | [], _ => by simp [PyData.shownKv]
  | (k, v) :: r, h => by
    simp only [lay2Kv, Bool.and_eq_true] at h
    have h0 := shown_k h.1.1
    have h1 := shown_le2 v h.1.2
    have h2 := shownKv_le2 r h.2
    have e3 : (((": " : String) : Str)).length = 2 := by decide
    simp only [PyData.shownKv, List.map_cons, List.sum_cons, rlen2Kv]
    rw [strLen_append, strLen_append]
    omega
end
structure Sho2 (d : PyData) : Prop where
  lay : lay2 d = true
  shw : d.showable = true
  dep : d.depth ≤ 60
  len : rlen2 d ≤ 10000000
  int : ∀ i : Int, d = .int i → i.natAbs.log2 < 1920
noncomputable def isSeqD : PyData → Bool
  | .list _ | .tuple _ | .dict _ => true
  | _ => false
theorem shows_of {X : Cx} {pins : List (Addr × Obj)} {σ : L2.St} {H : Hp} {s : Shared} {d : PyData} {a : Addr} (I : Inv X pins σ H s) (h : Dq H (.ref a) d) (hd : Sho2 d) (hsz : d.shown.length ≤ sizeLine) (hsq : isSeqD d = true) (r : RelV (V.ref a) (Value.ref a)) : ∃ T idr, ShowsBy X.prog X.w s.heap a d T idr := by
  have c := hd.lay
  have hs := hd.shw
  cases d with
  | list ds =>
    have hz2 : (listText (PyData.shownAll ds)).length ≤ sizeLine := by simpa only [PyData.shown] using hsz
    simp only [lay2] at c
    simp only [PyData.showable] at hs
    cases h with
    | lst hl ha =>
      obtain ⟨its, rv, ⟨o, n, ho, hc, _, hdd⟩, _⟩ := I.list (SqL.of hl)
      obtain ⟨as, bs, hr, hb, hk⟩ := DqAll.rk I ds _ its ha c hs (fun t ht => Nat.le_trans (listText_mem_le ht) hz2) rv
      have R := Reads.list ho hc hdd hr
      have hn := not_mem_of_deeper R (n := PyData.depthAll ds) (by simp only [PyData.depth]; omega) hb
      refine ⟨"list", "list.__repr__", F.slot_list_repr.toG, F.slot_list_str, F.slot_list_format, fun s' k => ⟨o, k _ _ ho, hc⟩, fun A E s' Q hg hu k hQ => ?_⟩
      simp only [PyData.depth] at hu
      simp only [PyData.shown] at hQ
      match its, ds, hr, hdd, hk, hn, hu, hQ with
      | [], [], _, hdd, _, _, _, hQ =>
        rw [PyData.shownAll_nil, listText_nil] at hQ
        exact call_list_repr_empty ⟨o, k _ _ ho, hc⟩ (k _ _ ho) hdd (hQ s'.heap _ _ fun _ _ e => e)
      | x :: l, ds, _, hdd, hk, hn, hu, hQ => exact call_list_reprK ho hc hdd hn (by have := hk.length_eq; simpa using this) (fun i y e => hk.item i y (by simpa using e)) hg (fun b _ => Clear.nil b) hu k hQ hz2
  | tuple ds =>
    have hz2 : (tupleText (PyData.shownAll ds)).length ≤ sizeLine := by simpa only [PyData.shown] using hsz
    simp only [lay2] at c
    simp only [PyData.showable] at hs
    cases h with
    | tup hl ha =>
      obtain ⟨its, rv, ⟨o, ho, hc, n, hdd⟩, _⟩ := I.tuple (SqT.of hl)
      obtain ⟨as, bs, hr, hb, hk⟩ := DqAll.rk I ds _ its ha c hs (fun t ht => Nat.le_trans (tupleText_mem_le ht) hz2) rv
      have R := Reads.tuple ho hc hdd hr
      have hn := not_mem_of_deeper R (n := PyData.depthAll ds) (by simp only [PyData.depth]; omega) hb
      refine ⟨"tuple", "tuple.__repr__", F.slot_tuple_repr, F.slot_tuple_str, F.slot_tuple_format, fun s' k => ⟨o, k _ _ ho, hc⟩, fun A E s' Q hg hu k hQ => ?_⟩
      simp only [PyData.depth] at hu
      simp only [PyData.shown] at hQ
      exact call_tuple_reprK ho hc hdd hn hk hg (fun b _ => Clear.nil b) hu k hQ hz2
  | dict l =>
    have hz2 : (dictText (PyData.shownKv l)).length ≤ sizeLine := by simpa only [PyData.shown] using hsz
    simp only [lay2] at c
    simp only [PyData.showable] at hs
    obtain ⟨a', kvs, ea, hx, hk⟩ := dq_dict h c
    obtain rfl : a = a' := by injection ea
    obtain ⟨_, hm, vs, rel, o, es, ep, ho, hex, hdat, _, hp, _⟩ := dk_of I.hok hx
    obtain ⟨s1, s2⟩ := PyData.showableKv_split l hs
    have hkey := readsKeys (s := s) hk rel hp
    obtain ⟨b1, hb1, k1⟩ := ReprAllK.of_readsAll (prog := X.prog) (w := X.w) hkey s1 (fun _ => List.not_mem_nil) fun t ht => by
      obtain ⟨p, hp2, hl⟩ := PyData.shownKv_key_le l t ht
      exact Nat.le_trans hl (Nat.le_trans (dictText_mem_le hp2) hz2)
    obtain ⟨as, b2, hr, hb2, k2⟩ := DkAll.rk I l kvs vs es.toList hk c s2 (fun t ht => by
      obtain ⟨p, hp2, hl⟩ := PyData.shownKv_val_le l t ht
      exact Nat.le_trans hl (Nat.le_trans (dictText_mem_le hp2) hz2)) rel hp
    have R := Reads.dict ho hex.1 hdat hkey hr
    have hb := (hb1.mono (PyData.depthAll_keys_le l)).append (hb2.mono (PyData.depthAll_vals_le l))
    have hn := not_mem_of_deeper R (n := PyData.depthKv l) (by simp only [PyData.depth]; omega) hb
    refine ⟨"dict", "dict.__repr__", F.slot_dict_repr, F.slot_dict_str, F.slot_dict_format, fun s' k => ⟨o, k _ _ ho, hex.1⟩, fun A E s' Q hg hu k hQ => ?_⟩
    simp only [PyData.depth] at hu
    simp only [PyData.shown] at hQ
    have e1 := k1.more_le (as' := b1 ++ b2) (fun b z => List.mem_append_left _ z) (PyData.depthAll_keys_le l)
    have e2 := k2.more_le (as' := b1 ++ b2) (fun b z => List.mem_append_right _ z) (PyData.depthAll_vals_le l)
    rw [PyData.shownKv_eq] at hQ hz2
    exact call_dict_reprK ho hex.1 hdat hm hn (ReprEntriesK.of_two es.toList _ _ e1 e2) hg (fun b _ => Clear.nil b) hu k hQ hz2
  | _ => cases hsq
section
variable {X : Cx} {ρ : REnv} {μ μ1 : Sto} {o : Expr} {d : PyData} {p pos : Pos}
theorem EV.reprX2 (T : X.mg "repr" = none) (hgd : X.A.guards = some []) (hun : X.A.units + 100 < cLine) (ho : EV X o ρ μ (.dat d) μ1) (hd : Sho2 d) (hg : Gl X "repr" := by rfl) (hs : starEach [o] X.env = (false, eval o X.env) :: starEach [] X.env := by rfl) : EV X (.Call (.Name "repr" p) [o] [] pos) ρ μ (Ss d.shown) μ1 := by
  intro w σ H m s Q q
  have hsz : d.shown.length ≤ sizeLine := Nat.le_trans (Nat.le_trans (shown_le2 d hd.lay) hd.len) (by decide)
  have cr : CallR X (.builtin "repr") (fun vs H Q => ∃ v, vs = [v] ∧ Dq H v d ∧ Q (.str d.shown) H) := by
    intro pins s σ H xs us Q I r h
    obtain ⟨v, rfl, hdq, hq⟩ := h
    obtain ⟨u, rfl, ru⟩ := vals1 r
    have big : ∀ a : Addr, v = V.ref a → isSeqD d = true → wpAny (model X.prog X.w) X.A (PySem.call (.builtin "repr") [u]) (EP X pins σ Q) X.xe s := fun a ea hsq => by
      subst ea
      obtain rfl : u = Value.ref a := ru
      obtain ⟨T0, idr, S⟩ := shows_of I hdq hd hsz hsq (show RelV (V.ref a) (Value.ref a) from rfl)
      have h1 := hd.dep
      refine call_repr_slot (by omega) (S.typeIs s fun _ _ e => e) S.slotRepr (S.call X.A.in1 X.xe s _ hgd (by show X.A.units + 1 + d.depth < cLine; omega) (fun _ _ e => e) fun h' u tk kp => ⟨_, _, rfl, ?_⟩)
      exact ⟨.str d.shown, H, I.kept (t' := tk) kp, ⟨u, rfl⟩, hq⟩
    cases hdq
    case non =>
      obtain rfl : u = Value.none := ru
      exact PySem.P.repr_of_none ⟨.str _, H, I.tok _, ⟨_, rfl⟩, by rw [PyData.shown_none] at hq; exact hq⟩
    case bl b =>
      obtain rfl : u = Value.bool b := ru
      exact PySem.P.repr_of_bool ⟨.str _, H, I.tok _, ⟨_, rfl⟩, by rw [PyData.shown_bool] at hq; exact hq⟩
    case int =>
      obtain ⟨t, rfl⟩ := ru
      exact PySem.P.repr_of_int (hd.int _ rfl) ⟨.str _, H, I.tok _, ⟨_, rfl⟩, by rw [PyData.shown_int] at hq; exact hq⟩
    case str =>
      obtain ⟨t, rfl⟩ := ru
      exact PySem.P.repr_of_str ⟨.str _, H, I.tok _, ⟨_, rfl⟩, by rw [PyData.shown_str] at hq; exact hq⟩ (by rw [PyData.shown_str] at hsz; exact hsz)
    all_goals exact big _ rfl rfl
  refine ⟨_, pe_callB cr hg T (by decide +kernel) (pa_cons (p_ex (e := o)) pa_nil hs) (by decide) (by decide) hs (by rfl), ?_⟩
  refine ho w σ H m s _ fun v H1 m1 f1 h1 => ?_
  have h1' : Dq (dl H1 w.all) v d := h1
  exact ⟨v, rfl, dq_mono dl_same _ _ h1', q _ H1 m1 f1 (Dq.str _)⟩
theorem EV.dict0 : EV X (.Dict [] [] pos) ρ μ (.dat (.dict [])) μ := by
  intro w σ H m s Q q
  refine ⟨_, pe_dnewK, fun c hc => ?_⟩
  refine q _ _ (m.new hc) (Fr.of_same (Same.new hc)) ?_
  exact Dq.dic (kvs := []) (ks := []) (ds := []) (dl_of (m.freshA hc) upd_same) rfl .nil
end
noncomputable def ShoB (base : Heap) (d : PyData) : Prop := Sho d ∨ Sho2 d
section
variable {X : Cx} {ρ : REnv} {μ μ1 : Sto} {o : Expr} {d : PyData} {p pos : Pos}
theorem EV.reprB (T : X.mg "repr" = none) (hgd : X.A.guards = some []) (hun : X.A.units + 100 < cLine) (ho : EV X o ρ μ (.dat d) μ1) (hd : ShoB X.base d) (hg : Gl X "repr" := by rfl) (hs : starEach [o] X.env = (false, eval o X.env) :: starEach [] X.env := by rfl) : EV X (.Call (.Name "repr" p) [o] [] pos) ρ μ (Ss d.shown) μ1 := by
  rcases hd with h | h2
  · exact EV.reprX T hgd hun ho h hg hs
  · exact EV.reprX2 T hgd hun ho h2 hg hs
end
end J
namespace J
open PySem PySem.Spec
open PyProof.Rows L2
noncomputable def errNs : List Str := ["InvalidText", "InvalidCount", "InvalidPlace", "InvalidClaim", "NotABook", "InvalidPlans", "InvalidPieces", "UnknownPlan", "TooLong", "IsOver", "NothingToUndo", "Broken"]
noncomputable def baseNs : List Str := ["NotRight", "NotThere", "CannotBe"]
noncomputable def ownNs : List String := ["ValueError", "LookupError", "ArithmeticError"]
noncomputable def errName (n : Nat) : Str := errNs.getD n Str.empty
noncomputable abbrev ErrAt (n : Nat) (f : Str) : Prop := (n = 0 ∧ f = "given") ∨ (n = 2 ∧ f = "given") ∨ (n = 5 ∧ f = "index") ∨ (n = 7 ∧ f = "given") ∨ (n = 1 ∧ f = "given") ∨ (n = 3 ∧ f = "given") ∨ (n = 4 ∧ f = "given") ∨ (n = 6 ∧ f = "index") ∨ (n = 8 ∧ f = "most")
noncomputable def errSort (n j : Nat) : Bool := if n < 7 then j == 0 else if n == 7 then j == 1 else j == 2
structure ErrC (K : PySem.W.Frag) (mg : Str → Option Value) (D : Addr) (n : Nat) (f : Str) : Prop where
  cls : ExcC K D
  xfc : XfC K D
  no : PySem.W.findIn K (.ref D) f = some none
  kit : ∀ j, j < 12 → ∃ T, mg (errName j) = some (.ref T) ∧ PySem.W.kitOne K (.ref D) (.ref T) = some (j == n)
  bas : ∀ j, j < 3 → ∃ T, mg (baseNs.getD j Str.empty) = some (.ref T) ∧ PySem.W.kitOne K (.ref D) (.ref T) = some (errSort n j)
  own : ∀ j, j < 3 → mg (ownNs.getD j "") = none ∧ PySem.W.kitOne K (.ref D) (.type (ownNs.getD j "")) = some (errSort n j)
  at_ : ErrAt n f
theorem idx_no {ds : List PyData} {d : PyData} {j : Nat} (h : ((ds.take j).all fun y => !eqF y d) = true) : ∀ (m : Nat) (y : PyData), m < j → ds[m]? = some y → eqF y d = false := fun m y hm hy => by
  rw [List.all_eq_true] at h
  have := h y (List.mem_iff_getElem?.mpr ⟨m, by rw [List.getElem?_take_of_lt hm]; exact hy⟩)
  simpa using this
noncomputable def errTold (n : Nat) (d : PyData) : List PyData := [.str (errName n), .str d.shown]
noncomputable def spErr (K : PySem.W.Frag) (mg : Str → Option Value) (base : Heap) : Addr × Obj → Hp → VK → Prop := fun p G R => ∃ (w : Wd) (μ : Sto) (D d : Addr) (n : Nat) (f : Str) (x : PyData), Mem K G w μ ∧ Val K G w (.ref p.1) (.exc p.1 d [(f, x)]) ∧ Zc (.ref D) (some d) p.2 ∧ (∃ vs, p.2.data = .fields vs) ∧ ErrC K mg D n f ∧ ShoB base x ∧
  ∀ v H', Mem K H' w μ → Fr w.α G H' → Val K H' w v (Ls (errTold n x)) → R v H'
section
variable {w : World} {P : Program} {K : PySem.W.Frag} {base : Heap} {mg : Str → Option Value}
noncomputable abbrev nLE : List Str := ["_law_e", "_law_sorts", "_law_bases", "_law_own", "_law_at", "_law_words"]
theorem scLErr : FnScope nLE ["_law_e"] (defScope sLError) := ⟨rfl, rfl, rfl, by decide +kernel, rfl, by decide +kernel, by decide +kernel⟩
noncomputable abbrev errX (P : Program) (w : World) (K : PySem.W.Frag) (mg : Str → Option Value) (base : Heap) (fa : Addr) (cdv : Value) (B : Around) (st : List Env) (t : Shared) (G : Hp) (p : Addr × Obj) : Cx := (L2H.cxH CX0 P w K mg base nLE "_law_error" (defScope sLError) fa cdv B st t G E0 p).nox
theorem okErr {fa : Addr} {fd : FuncData} (T : mg "isinstance" = none) (T2 : mg "repr" = none) (F : Fun K "_law_error" "_law_error" sLError fa fd) : FnE P w K mg base 2 fa fd "_law_e" (spErr K mg base) := by
  refine funE F scLErr fun cdv B st t G R p hgd hr h => ?_
  obtain ⟨w0, μ, D, d, n, f, x, m, hv, hz, hf, C, hx, q⟩ := h
  refine (show ST (errX P w K mg base fa cdv B st t G p) W0 μ.length (defBody sLError) [some (.exc p.1 d [(f, x)]), none, none, none, none, none] μ (PostR (Ls (errTold n x)) μ) from ?_) w0 _ G _ (Nat.le_of_eq m.len.symm) m (sl_start (N := nLE) (rs := [.exc p.1 d [(f, x)]]) (.cons hv .nil) (show 1 ≤ 6 by decide)) fun oo ho => ?_
  · have M : ExE (errX P w K mg base fa cdv B st t G p) D p.1 d := ⟨C.cls, C.xfc, p.2, List.mem_cons_self, hz, hf⟩
    have hu : (errX P w K mg base fa cdv B st t G p).A.units + 100 < cLine := by
      refine Nat.lt_of_le_of_lt ?_ hr.un
      exact Nat.add_le_add_left (show 100 ≤ 16 * 1 + 200 by decide) _
    obtain ⟨T0, a0, k0⟩ := C.kit 0 (by decide)
    obtain ⟨T1, a1, k1⟩ := C.kit 1 (by decide)
    obtain ⟨T2', a2, k2⟩ := C.kit 2 (by decide)
    obtain ⟨T3, a3, k3⟩ := C.kit 3 (by decide)
    obtain ⟨T4, a4, k4⟩ := C.kit 4 (by decide)
    obtain ⟨T5, a5, k5⟩ := C.kit 5 (by decide)
    obtain ⟨T6, a6, k6⟩ := C.kit 6 (by decide)
    obtain ⟨T7, a7, k7⟩ := C.kit 7 (by decide)
    obtain ⟨T8, a8, k8⟩ := C.kit 8 (by decide)
    obtain ⟨T9, a9, k9⟩ := C.kit 9 (by decide)
    obtain ⟨T10, a10, k10⟩ := C.kit 10 (by decide)
    obtain ⟨T11, a11, k11⟩ := C.kit 11 (by decide)
    obtain ⟨U0, b0, l0⟩ := C.bas 0 (by decide)
    obtain ⟨U1, b1, l1⟩ := C.bas 1 (by decide)
    obtain ⟨U2, b2, l2⟩ := C.bas 2 (by decide)
    obtain ⟨c0, o0⟩ := C.own 0 (by decide)
    obtain ⟨c1, o1⟩ := C.own 1 (by decide)
    obtain ⟨c2, o2⟩ := C.own 2 (by decide)
    have ie : ∀ {ρ : REnv} {n : Str} {c : Addr} {b : Bool} {pos p0 p1 p2}, ρ[0]? = some (some (.exc p.1 d [(f, x)])) → mg n = some (.ref c) → PySem.W.kitOne K (.ref D) (.ref c) = some b → Gl (errX P w K mg base fa cdv B st t G p) n → (n == ("__debug__" : Str)) = false → EV (errX P w K mg base fa cdv B st t G p) (.Call (.Name "isinstance" p0) [.Name "_law_e" p1, .Name n p2] [] pos) ρ μ (Bb b) μ := fun h0 h1 h2 h3 h4 => EV.isE M T ⟨h4, .inl ⟨_, rfl, h1⟩⟩ h2 (nm 0 (h := h0)) rfl h3
    have ib : ∀ {ρ : REnv} {n : Str} {c : String} {b : Bool} {pos p0 p1 p2}, ρ[0]? = some (some (.exc p.1 d [(f, x)])) → mg n = none → bootBuiltins n = some (.type c) → n ≠ "__name__" → PySem.W.kitOne K (.ref D) (.type c) = some b → Gl (errX P w K mg base fa cdv B st t G p) n → (n == ("__debug__" : Str)) = false → EV (errX P w K mg base fa cdv B st t G p) (.Call (.Name "isinstance" p0) [.Name "_law_e" p1, .Name n p2] [] pos) ρ μ (Bb b) μ := fun h0 h1 hb hn h2 h3 h4 => EV.isE M T ⟨h4, .inr ⟨_, rfl, h1, hb, hn⟩⟩ h2 (nm 0 (h := h0)) rfl h3
    refine ST.set (i := 1) (EVF.lst (ds := [.bool (0 == n), .bool (1 == n), .bool (2 == n)]) (AV.cons (ie rfl a0 k0 rfl rfl) (AV.cons (ie rfl a1 k1 rfl rfl) (AV.cons (ie rfl a2 k2 rfl rfl) AV.nil)))).ev scLErr.nd rfl (Or.inl rfl) ?_
    refine ST.set (i := 1) (oCat (nm 1) (EVF.lst (ds := [.bool (3 == n), .bool (4 == n), .bool (5 == n)]) (AV.cons (ie rfl a3 k3 rfl rfl) (AV.cons (ie rfl a4 k4 rfl rfl) (AV.cons (ie rfl a5 k5 rfl rfl) AV.nil)))).ev (by exact (show 3 + 3 ≤ sizeLine by decide))) scLErr.nd rfl (Or.inl rfl) ?_
    refine ST.set (i := 1) (oCat (nm 1) (EVF.lst (ds := [.bool (6 == n), .bool (7 == n), .bool (8 == n)]) (AV.cons (ie rfl a6 k6 rfl rfl) (AV.cons (ie rfl a7 k7 rfl rfl) (AV.cons (ie rfl a8 k8 rfl rfl) AV.nil)))).ev (by exact (show 6 + 3 ≤ sizeLine by decide))) scLErr.nd rfl (Or.inl rfl) ?_
    refine ST.set (i := 1) (oCat (nm 1) (EVF.lst (ds := [.bool (9 == n), .bool (10 == n), .bool (11 == n)]) (AV.cons (ie rfl a9 k9 rfl rfl) (AV.cons (ie rfl a10 k10 rfl rfl) (AV.cons (ie rfl a11 k11 rfl rfl) AV.nil)))).ev (by exact (show 9 + 3 ≤ sizeLine by decide))) scLErr.nd rfl (Or.inl rfl) ?_
    refine ST.set (i := 2) (EVF.lst (ds := [.bool (errSort n 0), .bool (errSort n 1), .bool (errSort n 2)]) (AV.cons (ie rfl b0 l0 rfl rfl) (AV.cons (ie rfl b1 l1 rfl rfl) (AV.cons (ie rfl b2 l2 rfl rfl) AV.nil)))).ev scLErr.nd rfl (Or.inl rfl) ?_
    refine ST.set (i := 3) (EVF.lst (ds := [.bool (errSort n 0), .bool (errSort n 1), .bool (errSort n 2)]) (AV.cons (ib rfl c0 (by decide +kernel) (by decide) o0 rfl rfl) (AV.cons (ib rfl c1 (by decide +kernel) (by decide) o1 rfl rfl) (AV.cons (ib rfl c2 (by decide +kernel) (by decide) o2 rfl rfl) AV.nil)))).ev scLErr.nd rfl (Or.inl rfl) ?_
    have no := C.no
    rcases C.at_ with ⟨rfl, rfl⟩ | ⟨rfl, rfl⟩ | ⟨rfl, rfl⟩ | ⟨rfl, rfl⟩ | ⟨rfl, rfl⟩ | ⟨rfl, rfl⟩ | ⟨rfl, rfl⟩ | ⟨rfl, rfl⟩ | ⟨rfl, rfl⟩
    all_goals
      refine ST.ifNo (WV.tv (WV.orF (tNe (EV.cnt (nm 1) EV.bl rfl rfl) EV.int) (WV.or1 (tNeD (by omega) (nm 3) (nm 2) (by decide +kernel) (by decide +kernel))) (by decide +kernel))) (by decide +kernel) ?_
    · refine ST.set (i := 4) (EV.idx (j := 0) (z := .bool true) (nm 1) EV.bl rfl rfl rfl rfl (idx_no (by decide +kernel))) scLErr.nd rfl (Or.inl rfl) ?_
      refine ST.ifNo (tNeD (by omega) (nm 2) (EVF.lst (ds := [.bool (decide ((0 : Int) < 7)), .bool (eqS (.int 0) (.int 7)), .bool (decide ((7 : Int) < 0))]) (AV.cons (cLt (nm 4) EV.int) (AV.cons (cEq (nm 4) EV.int) (AV.cons (cGt (nm 4) EV.int) AV.nil)))).ev (by decide +kernel) (by decide +kernel)) (by decide +kernel) ?_
      refine ST.set (i := 5) (EVF.lst (ds := (errNs.take 6).map .str) (AV.cons EV.str (AV.cons EV.str (AV.cons EV.str (AV.cons EV.str (AV.cons EV.str (AV.cons EV.str AV.nil))))))).ev scLErr.nd rfl (Or.inl rfl) ?_
      refine ST.set (i := 5) (oCat (nm 5) (EVF.lst (ds := (errNs.drop 6).map .str) (AV.cons EV.str (AV.cons EV.str (AV.cons EV.str (AV.cons EV.str (AV.cons EV.str (AV.cons EV.str AV.nil))))))).ev (by exact (show 6 + 6 ≤ sizeLine by decide))) scLErr.nd rfl (Or.inl rfl) ?_
      refine ST.ifYes (WV.tv (WV.orP (tLt (nm 4) EV.int) (WV.or1 (tEq (nm 4) EV.int)))) (by decide +kernel) ?_
      exact ST.retP (EVF.lst (ds := errTold 0 x) (AV.cons (ixL (nm 5) (nm 4) rfl) (AV.cons (EV.reprB T2 hgd hu (EV.excF M no (nm 0) rfl) hx) AV.nil))).ev rfl
    · refine ST.set (i := 4) (EV.idx (j := 2) (z := .bool true) (nm 1) EV.bl rfl rfl rfl rfl (idx_no (by decide +kernel))) scLErr.nd rfl (Or.inl rfl) ?_
      refine ST.ifNo (tNeD (by omega) (nm 2) (EVF.lst (ds := [.bool (decide ((2 : Int) < 7)), .bool (eqS (.int 2) (.int 7)), .bool (decide ((7 : Int) < 2))]) (AV.cons (cLt (nm 4) EV.int) (AV.cons (cEq (nm 4) EV.int) (AV.cons (cGt (nm 4) EV.int) AV.nil)))).ev (by decide +kernel) (by decide +kernel)) (by decide +kernel) ?_
      refine ST.set (i := 5) (EVF.lst (ds := (errNs.take 6).map .str) (AV.cons EV.str (AV.cons EV.str (AV.cons EV.str (AV.cons EV.str (AV.cons EV.str (AV.cons EV.str AV.nil))))))).ev scLErr.nd rfl (Or.inl rfl) ?_
      refine ST.set (i := 5) (oCat (nm 5) (EVF.lst (ds := (errNs.drop 6).map .str) (AV.cons EV.str (AV.cons EV.str (AV.cons EV.str (AV.cons EV.str (AV.cons EV.str (AV.cons EV.str AV.nil))))))).ev (by exact (show 6 + 6 ≤ sizeLine by decide))) scLErr.nd rfl (Or.inl rfl) ?_
      refine ST.ifYes (WV.tv (WV.orP (tLt (nm 4) EV.int) (WV.or1 (tEq (nm 4) EV.int)))) (by decide +kernel) ?_
      exact ST.retP (EVF.lst (ds := errTold 2 x) (AV.cons (ixL (nm 5) (nm 4) rfl) (AV.cons (EV.reprB T2 hgd hu (EV.excF M no (nm 0) rfl) hx) AV.nil))).ev rfl
    · refine ST.set (i := 4) (EV.idx (j := 5) (z := .bool true) (nm 1) EV.bl rfl rfl rfl rfl (idx_no (by decide +kernel))) scLErr.nd rfl (Or.inl rfl) ?_
      refine ST.ifNo (tNeD (by omega) (nm 2) (EVF.lst (ds := [.bool (decide ((5 : Int) < 7)), .bool (eqS (.int 5) (.int 7)), .bool (decide ((7 : Int) < 5))]) (AV.cons (cLt (nm 4) EV.int) (AV.cons (cEq (nm 4) EV.int) (AV.cons (cGt (nm 4) EV.int) AV.nil)))).ev (by decide +kernel) (by decide +kernel)) (by decide +kernel) ?_
      refine ST.set (i := 5) (EVF.lst (ds := (errNs.take 6).map .str) (AV.cons EV.str (AV.cons EV.str (AV.cons EV.str (AV.cons EV.str (AV.cons EV.str (AV.cons EV.str AV.nil))))))).ev scLErr.nd rfl (Or.inl rfl) ?_
      refine ST.set (i := 5) (oCat (nm 5) (EVF.lst (ds := (errNs.drop 6).map .str) (AV.cons EV.str (AV.cons EV.str (AV.cons EV.str (AV.cons EV.str (AV.cons EV.str (AV.cons EV.str AV.nil))))))).ev (by exact (show 6 + 6 ≤ sizeLine by decide))) scLErr.nd rfl (Or.inl rfl) ?_
      refine ST.ifNo (WV.tv (WV.orP (tLt (nm 4) EV.int) (WV.or1 (tEq (nm 4) EV.int)))) (by decide +kernel) ?_
      refine ST.ifYes (tLt (nm 4) EV.int) (by decide +kernel) ?_
      exact ST.retP (EVF.lst (ds := errTold 5 x) (AV.cons (ixL (nm 5) (nm 4) rfl) (AV.cons (EV.reprB T2 hgd hu (EV.excF M no (nm 0) rfl) hx) AV.nil))).ev rfl
    · refine ST.set (i := 4) (EV.idx (j := 7) (z := .bool true) (nm 1) EV.bl rfl rfl rfl rfl (idx_no (by decide +kernel))) scLErr.nd rfl (Or.inl rfl) ?_
      refine ST.ifNo (tNeD (by omega) (nm 2) (EVF.lst (ds := [.bool (decide ((7 : Int) < 7)), .bool (eqS (.int 7) (.int 7)), .bool (decide ((7 : Int) < 7))]) (AV.cons (cLt (nm 4) EV.int) (AV.cons (cEq (nm 4) EV.int) (AV.cons (cGt (nm 4) EV.int) AV.nil)))).ev (by decide +kernel) (by decide +kernel)) (by decide +kernel) ?_
      refine ST.set (i := 5) (EVF.lst (ds := (errNs.take 6).map .str) (AV.cons EV.str (AV.cons EV.str (AV.cons EV.str (AV.cons EV.str (AV.cons EV.str (AV.cons EV.str AV.nil))))))).ev scLErr.nd rfl (Or.inl rfl) ?_
      refine ST.set (i := 5) (oCat (nm 5) (EVF.lst (ds := (errNs.drop 6).map .str) (AV.cons EV.str (AV.cons EV.str (AV.cons EV.str (AV.cons EV.str (AV.cons EV.str (AV.cons EV.str AV.nil))))))).ev (by exact (show 6 + 6 ≤ sizeLine by decide))) scLErr.nd rfl (Or.inl rfl) ?_
      refine ST.ifYes (WV.tv (WV.orP (tLt (nm 4) EV.int) (WV.or1 (tEq (nm 4) EV.int)))) (by decide +kernel) ?_
      exact ST.retP (EVF.lst (ds := errTold 7 x) (AV.cons (ixL (nm 5) (nm 4) rfl) (AV.cons (EV.reprB T2 hgd hu (EV.excF M no (nm 0) rfl) hx) AV.nil))).ev rfl
    · refine ST.set (i := 4) (EV.idx (j := 1) (z := .bool true) (nm 1) EV.bl rfl rfl rfl rfl (idx_no (by decide +kernel))) scLErr.nd rfl (Or.inl rfl) ?_
      refine ST.ifNo (tNeD (by omega) (nm 2) (EVF.lst (ds := [.bool (decide ((1 : Int) < 7)), .bool (eqS (.int 1) (.int 7)), .bool (decide ((7 : Int) < 1))]) (AV.cons (cLt (nm 4) EV.int) (AV.cons (cEq (nm 4) EV.int) (AV.cons (cGt (nm 4) EV.int) AV.nil)))).ev (by decide +kernel) (by decide +kernel)) (by decide +kernel) ?_
      refine ST.set (i := 5) (EVF.lst (ds := (errNs.take 6).map .str) (AV.cons EV.str (AV.cons EV.str (AV.cons EV.str (AV.cons EV.str (AV.cons EV.str (AV.cons EV.str AV.nil))))))).ev scLErr.nd rfl (Or.inl rfl) ?_
      refine ST.set (i := 5) (oCat (nm 5) (EVF.lst (ds := (errNs.drop 6).map .str) (AV.cons EV.str (AV.cons EV.str (AV.cons EV.str (AV.cons EV.str (AV.cons EV.str (AV.cons EV.str AV.nil))))))).ev (by exact (show 6 + 6 ≤ sizeLine by decide))) scLErr.nd rfl (Or.inl rfl) ?_
      refine ST.ifYes (WV.tv (WV.orP (tLt (nm 4) EV.int) (WV.or1 (tEq (nm 4) EV.int)))) (by decide +kernel) ?_
      exact ST.retP (EVF.lst (ds := errTold 1 x) (AV.cons (ixL (nm 5) (nm 4) rfl) (AV.cons (EV.reprB T2 hgd hu (EV.excF M no (nm 0) rfl) hx) AV.nil))).ev rfl
    · refine ST.set (i := 4) (EV.idx (j := 3) (z := .bool true) (nm 1) EV.bl rfl rfl rfl rfl (idx_no (by decide +kernel))) scLErr.nd rfl (Or.inl rfl) ?_
      refine ST.ifNo (tNeD (by omega) (nm 2) (EVF.lst (ds := [.bool (decide ((3 : Int) < 7)), .bool (eqS (.int 3) (.int 7)), .bool (decide ((7 : Int) < 3))]) (AV.cons (cLt (nm 4) EV.int) (AV.cons (cEq (nm 4) EV.int) (AV.cons (cGt (nm 4) EV.int) AV.nil)))).ev (by decide +kernel) (by decide +kernel)) (by decide +kernel) ?_
      refine ST.set (i := 5) (EVF.lst (ds := (errNs.take 6).map .str) (AV.cons EV.str (AV.cons EV.str (AV.cons EV.str (AV.cons EV.str (AV.cons EV.str (AV.cons EV.str AV.nil))))))).ev scLErr.nd rfl (Or.inl rfl) ?_
      refine ST.set (i := 5) (oCat (nm 5) (EVF.lst (ds := (errNs.drop 6).map .str) (AV.cons EV.str (AV.cons EV.str (AV.cons EV.str (AV.cons EV.str (AV.cons EV.str (AV.cons EV.str AV.nil))))))).ev (by exact (show 6 + 6 ≤ sizeLine by decide))) scLErr.nd rfl (Or.inl rfl) ?_
      refine ST.ifYes (WV.tv (WV.orP (tLt (nm 4) EV.int) (WV.or1 (tEq (nm 4) EV.int)))) (by decide +kernel) ?_
      exact ST.retP (EVF.lst (ds := errTold 3 x) (AV.cons (ixL (nm 5) (nm 4) rfl) (AV.cons (EV.reprB T2 hgd hu (EV.excF M no (nm 0) rfl) hx) AV.nil))).ev rfl
    · refine ST.set (i := 4) (EV.idx (j := 4) (z := .bool true) (nm 1) EV.bl rfl rfl rfl rfl (idx_no (by decide +kernel))) scLErr.nd rfl (Or.inl rfl) ?_
      refine ST.ifNo (tNeD (by omega) (nm 2) (EVF.lst (ds := [.bool (decide ((4 : Int) < 7)), .bool (eqS (.int 4) (.int 7)), .bool (decide ((7 : Int) < 4))]) (AV.cons (cLt (nm 4) EV.int) (AV.cons (cEq (nm 4) EV.int) (AV.cons (cGt (nm 4) EV.int) AV.nil)))).ev (by decide +kernel) (by decide +kernel)) (by decide +kernel) ?_
      refine ST.set (i := 5) (EVF.lst (ds := (errNs.take 6).map .str) (AV.cons EV.str (AV.cons EV.str (AV.cons EV.str (AV.cons EV.str (AV.cons EV.str (AV.cons EV.str AV.nil))))))).ev scLErr.nd rfl (Or.inl rfl) ?_
      refine ST.set (i := 5) (oCat (nm 5) (EVF.lst (ds := (errNs.drop 6).map .str) (AV.cons EV.str (AV.cons EV.str (AV.cons EV.str (AV.cons EV.str (AV.cons EV.str (AV.cons EV.str AV.nil))))))).ev (by exact (show 6 + 6 ≤ sizeLine by decide))) scLErr.nd rfl (Or.inl rfl) ?_
      refine ST.ifYes (WV.tv (WV.orP (tLt (nm 4) EV.int) (WV.or1 (tEq (nm 4) EV.int)))) (by decide +kernel) ?_
      exact ST.retP (EVF.lst (ds := errTold 4 x) (AV.cons (ixL (nm 5) (nm 4) rfl) (AV.cons (EV.reprB T2 hgd hu (EV.excF M no (nm 0) rfl) hx) AV.nil))).ev rfl
    · refine ST.set (i := 4) (EV.idx (j := 6) (z := .bool true) (nm 1) EV.bl rfl rfl rfl rfl (idx_no (by decide +kernel))) scLErr.nd rfl (Or.inl rfl) ?_
      refine ST.ifNo (tNeD (by omega) (nm 2) (EVF.lst (ds := [.bool (decide ((6 : Int) < 7)), .bool (eqS (.int 6) (.int 7)), .bool (decide ((7 : Int) < 6))]) (AV.cons (cLt (nm 4) EV.int) (AV.cons (cEq (nm 4) EV.int) (AV.cons (cGt (nm 4) EV.int) AV.nil)))).ev (by decide +kernel) (by decide +kernel)) (by decide +kernel) ?_
      refine ST.set (i := 5) (EVF.lst (ds := (errNs.take 6).map .str) (AV.cons EV.str (AV.cons EV.str (AV.cons EV.str (AV.cons EV.str (AV.cons EV.str (AV.cons EV.str AV.nil))))))).ev scLErr.nd rfl (Or.inl rfl) ?_
      refine ST.set (i := 5) (oCat (nm 5) (EVF.lst (ds := (errNs.drop 6).map .str) (AV.cons EV.str (AV.cons EV.str (AV.cons EV.str (AV.cons EV.str (AV.cons EV.str (AV.cons EV.str AV.nil))))))).ev (by exact (show 6 + 6 ≤ sizeLine by decide))) scLErr.nd rfl (Or.inl rfl) ?_
      refine ST.ifNo (WV.tv (WV.orP (tLt (nm 4) EV.int) (WV.or1 (tEq (nm 4) EV.int)))) (by decide +kernel) ?_
      refine ST.ifYes (tLt (nm 4) EV.int) (by decide +kernel) ?_
      exact ST.retP (EVF.lst (ds := errTold 6 x) (AV.cons (ixL (nm 5) (nm 4) rfl) (AV.cons (EV.reprB T2 hgd hu (EV.excF M no (nm 0) rfl) hx) AV.nil))).ev rfl
    · refine ST.set (i := 4) (EV.idx (j := 8) (z := .bool true) (nm 1) EV.bl rfl rfl rfl rfl (idx_no (by decide +kernel))) scLErr.nd rfl (Or.inl rfl) ?_
      refine ST.ifNo (tNeD (by omega) (nm 2) (EVF.lst (ds := [.bool (decide ((8 : Int) < 7)), .bool (eqS (.int 8) (.int 7)), .bool (decide ((7 : Int) < 8))]) (AV.cons (cLt (nm 4) EV.int) (AV.cons (cEq (nm 4) EV.int) (AV.cons (cGt (nm 4) EV.int) AV.nil)))).ev (by decide +kernel) (by decide +kernel)) (by decide +kernel) ?_
      refine ST.set (i := 5) (EVF.lst (ds := (errNs.take 6).map .str) (AV.cons EV.str (AV.cons EV.str (AV.cons EV.str (AV.cons EV.str (AV.cons EV.str (AV.cons EV.str AV.nil))))))).ev scLErr.nd rfl (Or.inl rfl) ?_
      refine ST.set (i := 5) (oCat (nm 5) (EVF.lst (ds := (errNs.drop 6).map .str) (AV.cons EV.str (AV.cons EV.str (AV.cons EV.str (AV.cons EV.str (AV.cons EV.str (AV.cons EV.str AV.nil))))))).ev (by exact (show 6 + 6 ≤ sizeLine by decide))) scLErr.nd rfl (Or.inl rfl) ?_
      refine ST.ifNo (WV.tv (WV.orP (tLt (nm 4) EV.int) (WV.or1 (tEq (nm 4) EV.int)))) (by decide +kernel) ?_
      refine ST.ifNo (tLt (nm 4) EV.int) (by decide +kernel) ?_
      refine ST.ifYes (tEq (nm 4) EV.int) (by decide +kernel) ?_
      exact ST.retP (EVF.lst (ds := errTold 8 x) (AV.cons (ixL (nm 5) (nm 4) rfl) (AV.cons (EV.reprB T2 hgd hu (EV.excF M no (nm 0) rfl) hx) AV.nil))).ev rfl
  · have hw : w0.cut μ.length = w0 := by
      show (⟨w0.α.take μ.length, w0.ξ⟩ : Wd) = w0
      rw [← m.len, List.take_length]
    match oo, ho with
    | .ret r2 μ2, ho =>
      obtain ⟨rfl, rfl⟩ := ho
      intro v H' m' f' hv'
      rw [hw] at m' hv'
      exact q v H' m' f' hv'
end
end J
namespace M
open PySem J
noncomputable def isInteger : PyData → Bool
  | .int _ => true
  | _ => false
noncomputable abbrev letters : Str := "abcdefghijklmnopqrstuvwxyz"
noncomputable abbrev digits : Str := "0123456789"
noncomputable def signOk (c : Nat) : Bool := decide (c ∈ (letters ++ digits).cps.toList)
noncomputable def nameOk (s : Str) : Bool := (decide (1 ≤ (s.length : Int)) && decide ((s.length : Int) ≤ 8)) && (match s.cps.toList with
  | [] => false
  | c :: r => decide (c ∈ letters.cps.toList) && (c :: r).all signOk)
noncomputable def isName : PyData → Bool
  | .str s => nameOk s
  | _ => false
noncomputable def lasts : List PyData := [.str "last 1", .str "last 2", .str "last 3", .str "last 4"]
noncomputable def isGoal : PyData → Bool
  | .str s => inD (.str s) ([.str "all", .str "before"] ++ lasts)
  | _ => false
noncomputable def strI (i : Int) : Str := (toString i : String)
noncomputable def digList (lo hi : Int) : List PyData := (rngD lo (hi + 1 - lo).toNat).map fun
  | .int i => .str (strI i)
  | d => d
noncomputable def dval (s : Str) : Int := match s.cps.toList with
  | [c] => (c : Int) - 48
  | _ => 0
noncomputable def readDigit (s : Str) (lo hi : Int) : PyData := if inD (.str s) (digList lo hi) then .int (dval s) else .none
theorem dig_in {s : Str} {lo hi : Int} (h0 : 0 ≤ lo) (h9 : hi ≤ 9) (h : inD (.str s) (digList lo hi) = true) : ∃ i : Nat, i ≤ 9 ∧ lo ≤ i ∧ (i : Int) ≤ hi ∧ s = strI i := by
  unfold inD digList at h
  rw [List.any_map, List.any_eq_true] at h
  obtain ⟨d, hd, he⟩ := h
  unfold rngD at hd
  obtain ⟨k, hk, rfl⟩ := List.mem_map.mp hd
  have hk' := List.mem_range.mp hk
  have e : (strI (lo + (k : Int)) == s) = true := he
  have e' : strI (lo + (k : Int)) = s := by simpa using e
  refine ⟨(lo + (k : Int)).toNat, by omega, by omega, by omega, ?_⟩
  rw [← e']
  congr 1
  omega
theorem dig_text : ∀ i : Nat, i ≤ 9 → PySem.intText? (strI i) = some (i : Int) ∧ dval (strI i) = i ∧ (strI i).length = 1 := by
  have h : ∀ i : Fin 10, PySem.intText? (strI (i.val : Int)) = some (i.val : Int) ∧ dval (strI (i.val : Int)) = (i.val : Int) ∧ (strI (i.val : Int)).length = 1 := by decide +kernel
  exact fun i hi => h ⟨i, by omega⟩
noncomputable def ofS : Str := "of"
noncomputable def readClass (ws : List Str) : PyData := match ws with
  | [a, o, b] => if o == ofS then (match readDigit b 1 3 with
    | .int d => (match readDigit a 0 (d - 1) with
      | .int e => .tuple [.int e, .int d]
      | _ => .none)
    | _ => .none) else .none
  | _ => .none
noncomputable def readWay (ws : List Str) : PyData := match ws with
  | [a, b] => if inD (.str a) [.str "left", .str "right"] then (match readDigit b 1 4 with
    | .int n => if a == "right" then .int n else .int (-n)
    | _ => .none) else .none
  | _ => .none
noncomputable def putClause (deed : Str) (place more : PyData) : PyData := match place with
  | .tuple [e, d] => if isNone more then .none else .tuple [.str deed, e, d, more]
  | _ => .none
end M
namespace M
open PySem J L2
noncomputable def cutL {α : Type} (xs : List α) (lo hi : Option Int) : List α := (xs.drop (HT.sIx xs.length 0 lo)).take (HT.sIx xs.length xs.length hi - HT.sIx xs.length 0 lo)
theorem cutD_map {α : Type} (f : α → PyData) (xs : List α) (lo hi : Option Int) : cutD (xs.map f) lo hi = (cutL xs lo hi).map f := by
  unfold cutD cutL
  rw [List.length_map, ← List.map_drop, ← List.map_take]
theorem spl_ne (S : List Nat) : ∀ (k : Nat) (acc l : List Nat), TL.spl S k acc l ≠ []
  | k, acc, [] => by rw [TL.spl_nil]; simp
  | 0, acc, c :: r => by
    unfold TL.spl
    split
    · simp
    · exact spl_ne S 0 _ r
  | k + 1, acc, c :: r => by
    unfold TL.spl
    exact spl_ne S k acc r
theorem spl_len (S : List Nat) : ∀ (k : Nat) (acc l : List Nat), ∀ p ∈ TL.spl S k acc l, p.length ≤ acc.length + l.length
  | k, acc, [] => by
    intro p hp
    rw [TL.spl_nil] at hp
    simp at hp
    simp [hp]
  | 0, acc, c :: r => by
    intro p hp
    unfold TL.spl at hp
    split at hp
    · rcases List.mem_cons.mp hp with rfl | hp
      · simp
      · have := spl_len S _ [] r p hp
        simp at this ⊢
        omega
    · have := spl_len S 0 _ r p hp
      simp at this ⊢
      omega
  | k + 1, acc, c :: r => by
    intro p hp
    unfold TL.spl at hp
    have := spl_len S k acc r p hp
    simp
    omega
theorem S_of_tl (s : Str) : SX.S (TL.tl s) = s := TL.mk_tl s
theorem split_list (s t : Str) (h1 : TL.tl t ≠ []) (h2 : (TL.tl t).all (· < 256) = true) : Txt.split s t = (TL.spl (TL.tl t) 0 [] (TL.tl s)).map SX.S := by
  have := SX.split_S (a := TL.tl s) (b := TL.tl t) h1 h2
  rwa [S_of_tl, S_of_tl] at this
theorem split_ne (s t : Str) (h1 : TL.tl t ≠ []) (h2 : (TL.tl t).all (· < 256) = true) : ∃ p ps, Txt.split s t = p :: ps := by
  rw [split_list s t h1 h2]
  cases q : TL.spl (TL.tl t) 0 [] (TL.tl s) with
  | nil => exact absurd q (spl_ne _ _ _ _)
  | cons p ps => exact ⟨_, _, rfl⟩
theorem split_len (s t : Str) (h1 : TL.tl t ≠ []) (h2 : (TL.tl t).all (· < 256) = true) : ∀ p ∈ Txt.split s t, p.length ≤ s.length := by
  intro p hp
  rw [split_list s t h1 h2] at hp
  obtain ⟨q, hq, rfl⟩ := List.mem_map.mp hp
  have := spl_len _ _ _ _ q hq
  rw [TL.len_tl s]
  simpa [TL.len_tl] using this
noncomputable def readClause (s : Str) : PyData := match Txt.split s " " with
  | [] => .none
  | deed :: ws =>
    if inD (.str deed) [.str "join", .str "take"] then putClause deed (readClass (cutL (deed :: ws) (some 1) (some 4))) (readWay (cutL (deed :: ws) (some 4) none))
    else if deed == "clear" then putClause deed (readClass (cutL (deed :: ws) (some 1) none)) (.int 0)
    else if deed == "call" then (match deed :: ws with
      | [a, n, o, x, y, z] => if nameOk n && o == "on" then putClause deed (readClass (cutL [a, n, o, x, y, z] (some 3) none)) (.str n) else .none
      | _ => .none)
    else .none
structure WfC (c : PyData) : Prop where
  ex : ∃ (deed : Str) (e d : Int) (more : PyData), c = .tuple [.str deed, .int e, .int d, more] ∧ 0 ≤ e ∧ e < d ∧ d ≤ 3 ∧ PyData.strOk deed = true ∧ ((∃ i, more = .int i) ∨ ∃ s, more = .str s ∧ PyData.strOk s = true)
noncomputable def isCall : PyData → Bool
  | .tuple (.str d :: _) => d == "call"
  | _ => false
noncomputable def hit (e d e2 d2 : Int) : PyData → Bool
  | .int k => (k % d == e) && (k % d2 == e2)
  | _ => false
noncomputable def share : PyData → PyData → Bool
  | .tuple [_, .int e, .int d, _], .tuple [_, .int e2, .int d2, _] => (rngD 0 (d * d2).toNat).any (hit e d e2 d2)
  | _, _ => false
noncomputable def ahead (cs : List PyData) : PyData → List PyData
  | .tuple [.int i, _] => cutD cs none (some i)
  | _ => []
noncomputable def shareAt : PyData → PyData → Bool
  | .tuple [_, c], o => share c o
  | _, _ => false
noncomputable def fit (cs : List PyData) : Bool :=
  if (cs.map isCall).any id && !((cs.map isCall).all id) then false else !(((enD 0 cs).flatMap fun d => (ahead cs d).map (shareAt d)).any id)
noncomputable def readRound : PyData → PyData
  | .str s => let cs := (Txt.split s "; ").map readClause
    if cs.length > 3 then .none else if cs.any isNone then .none else if fit cs then .tuple cs else .none
  | _ => .none
end M
namespace M
open PySem J L2
theorem readDigit_cases (s : Str) (lo hi : Int) (h0 : 0 ≤ lo) (h9 : hi ≤ 9) : readDigit s lo hi = .none ∨ ∃ i : Int, lo ≤ i ∧ i ≤ hi ∧ readDigit s lo hi = .int i := by
  unfold readDigit
  cases hk : inD (.str s) (digList lo hi) with
  | false => exact .inl (if_neg (by simp))
  | true =>
    obtain ⟨i, hi9, h1, h2, rfl⟩ := dig_in h0 h9 hk
    obtain ⟨e1, e2, e3⟩ := dig_text i hi9
    exact .inr ⟨i, h1, h2, by rw [if_pos rfl, e2]⟩
theorem readClass_cases (ws : List Str) : readClass ws = .none ∨ ∃ e d : Int, 0 ≤ e ∧ e < d ∧ d ≤ 3 ∧ readClass ws = .tuple [.int e, .int d] := by
  match ws with
  | [] => exact .inl rfl
  | [_] => exact .inl rfl
  | [_, _] => exact .inl rfl
  | _ :: _ :: _ :: _ :: _ => exact .inl rfl
  | [a, o, b] =>
    show (if o == ofS then _ else _) = _ ∨ _
    unfold readClass
    dsimp only
    by_cases ho : (o == ofS) = true
    · rw [if_pos ho]
      rcases readDigit_cases b 1 3 (by decide) (by decide) with q | ⟨d, d1, d3, q⟩
      · rw [q]; exact .inl rfl
      · rw [q]
        rcases readDigit_cases a 0 (d - 1) (by decide) (by omega) with q2 | ⟨x, x1, x3, q2⟩
        · dsimp only
          rw [q2]; exact .inl rfl
        · dsimp only
          rw [q2]
          exact .inr ⟨x, d, x1, by omega, d3, rfl⟩
    · rw [if_neg ho]
      exact .inl rfl
theorem readWay_cases (ws : List Str) : readWay ws = .none ∨ ∃ i : Int, readWay ws = .int i := by
  match ws with
  | [] => exact .inl rfl
  | [_] => exact .inl rfl
  | _ :: _ :: _ :: _ => exact .inl rfl
  | [a, b] =>
    unfold readWay
    dsimp only
    by_cases ho : inD (.str a) [.str "left", .str "right"] = true
    · rw [if_pos ho]
      rcases readDigit_cases b 1 4 (by decide) (by decide) with q | ⟨d, d1, d3, q⟩
      · rw [q]; exact .inl rfl
      · rw [q]
        dsimp only
        by_cases hr : (a == ("right" : Str)) = true
        · rw [if_pos hr]; exact .inr ⟨_, rfl⟩
        · rw [if_neg hr]; exact .inr ⟨_, rfl⟩
    · rw [if_neg ho]
      exact .inl rfl
theorem sign_ok {c : Nat} (h : signOk c = true) : c < 256 := by
  have h1 : c ∈ (letters ++ digits).cps.toList := of_decide_eq_true h
  have h2 : ∀ c ∈ (letters ++ digits).cps.toList, c < 256 := by decide +kernel
  exact h2 c h1
theorem name_signs {s : Str} (h : nameOk s = true) : 1 ≤ s.length ∧ s.length ≤ 8 ∧ ∀ c ∈ s.cps.toList, signOk c = true := by
  unfold nameOk at h
  rw [Bool.and_eq_true, Bool.and_eq_true, decide_eq_true_eq, decide_eq_true_eq] at h
  refine ⟨by omega, by omega, ?_⟩
  cases q : s.cps.toList with
  | nil => intro c hc; cases hc
  | cons c cs =>
    rw [q] at h
    have h2 := h.2
    dsimp only at h2
    rw [Bool.and_eq_true] at h2
    exact fun x hx => List.all_eq_true.mp h2.2 x hx
theorem name_ok {s : Str} (h : nameOk s = true) : PyData.strOk s = true := by
  unfold PyData.strOk
  rw [← Array.all_toList, List.all_eq_true]
  intro c hc
  have := sign_ok ((name_signs h).2.2 c hc)
  exact decide_eq_true (by omega)
theorem put_wf {deed : Str} {pl mo : PyData} (hd : PyData.strOk deed = true) (hp : pl = .none ∨ ∃ e d : Int, 0 ≤ e ∧ e < d ∧ d ≤ 3 ∧ pl = .tuple [.int e, .int d]) (hm : mo = .none ∨ (∃ i, mo = .int i) ∨ ∃ s, mo = .str s ∧ PyData.strOk s = true) :
    putClause deed pl mo = .none ∨ WfC (putClause deed pl mo) := by
  rcases hp with rfl | ⟨e, d, h1, h2, h3, rfl⟩
  · exact .inl rfl
  · rcases hm with rfl | ⟨i, rfl⟩ | ⟨s, rfl, hs⟩
    · exact .inl rfl
    · exact .inr ⟨deed, e, d, _, rfl, h1, h2, h3, hd, .inl ⟨i, rfl⟩⟩
    · exact .inr ⟨deed, e, d, _, rfl, h1, h2, h3, hd, .inr ⟨s, rfl, hs⟩⟩
theorem inS2 {s a b : Str} (h : inD (.str s) [.str a, .str b] = true) : s = a ∨ s = b := by
  have h' : ((a == s) || ((b == s) || false)) = true := h
  rw [Bool.or_eq_true, Bool.or_false, beq_iff_eq, beq_iff_eq] at h'
  exact h'.imp Eq.symm Eq.symm
theorem readClause_cases (s : Str) : readClause s = .none ∨ WfC (readClause s) := by
  unfold readClause
  cases Txt.split s " " with
  | nil => exact .inl rfl
  | cons deed ws =>
    dsimp only
    by_cases h : inD (.str deed) [.str "join", .str "take"] = true
    · rw [if_pos h]
      have hd : PyData.strOk deed = true := by rcases inS2 h with rfl | rfl <;> decide +kernel
      exact put_wf hd (readClass_cases _) ((readWay_cases _).imp id .inl)
    · rw [if_neg h]
      by_cases h : (deed == ("clear" : Str)) = true
      · rw [if_pos h]
        have hd : PyData.strOk deed = true := by
          rw [eq_of_beq h]
          decide +kernel
        exact put_wf hd (readClass_cases _) (.inr (.inl ⟨0, rfl⟩))
      · rw [if_neg h]
        by_cases h : (deed == ("call" : Str)) = true
        · rw [if_pos h]
          have hd : PyData.strOk deed = true := by
            rw [eq_of_beq h]
            decide +kernel
          match ws with
          | [] => exact .inl rfl
          | [_] => exact .inl rfl
          | [_, _] => exact .inl rfl
          | [_, _, _] => exact .inl rfl
          | [_, _, _, _] => exact .inl rfl
          | _ :: _ :: _ :: _ :: _ :: _ :: _ => exact .inl rfl
          | [n, o, x, y, z] =>
            dsimp only
            by_cases h2 : (nameOk n && o == ("on" : Str)) = true
            · rw [if_pos h2]
              rw [Bool.and_eq_true] at h2
              exact put_wf hd (readClass_cases _) (.inr (.inr ⟨_, rfl, name_ok h2.1⟩))
            · rw [if_neg h2]
              exact .inl rfl
        · rw [if_neg h]
          exact .inl rfl
theorem wf_canLay {c : PyData} (h : WfC c) : PyData.canLay0 c = true ∧ PyData.depth c ≤ 2 := by
  obtain ⟨deed, e, d, more, rfl, _, _, _, hd, hm⟩ := h
  rcases hm with ⟨i, rfl⟩ | ⟨s, rfl, hs⟩
  · exact ⟨by simp [PyData.canLay0, PyData.canLayAll0, hd], by simp [PyData.depth, PyData.depthAll]⟩
  · exact ⟨by simp [PyData.canLay0, PyData.canLayAll0, hd, hs], by simp [PyData.depth, PyData.depthAll]⟩
theorem cls_lay : ∀ {cs : List PyData}, (∀ c ∈ cs, c = .none ∨ WfC c) → PyData.canLayAll0 cs = true ∧ PyData.depthAll cs ≤ 2
  | [], _ => ⟨rfl, by simp [PyData.depthAll]⟩
  | c :: cs, h => by
    obtain ⟨h1, h2⟩ := cls_lay (cs := cs) fun x hx => h x (List.mem_cons_of_mem _ hx)
    have h3 : PyData.canLay0 c = true ∧ PyData.depth c ≤ 2 := by
      rcases h c List.mem_cons_self with rfl | hw
      · exact ⟨rfl, by simp [PyData.depth]⟩
      · exact wf_canLay hw
    exact ⟨by simp [PyData.canLayAll0, h1, h3.1], by simp only [PyData.depthAll]; omega⟩
theorem cls_shaped {cs : List PyData} (h : ∀ c ∈ cs, c = .none ∨ WfC c) : SeqAt.shaped (.list cs) = true := by
  obtain ⟨h1, h2⟩ := cls_lay h
  unfold SeqAt.shaped
  rw [Bool.and_eq_true]
  refine ⟨by simpa [PyData.canLay0] using h1, decide_eq_true ?_⟩
  simp only [PyData.depth]
  omega
theorem eqv_none {c : PyData} (h : c = .none ∨ WfC c) : PyData.eqv c .none = isNone c := by
  rcases h with rfl | ⟨deed, e, d, more, rfl, _⟩
  · rfl
  · rfl
theorem any_none {cs : List PyData} (h : ∀ c ∈ cs, c = .none ∨ WfC c) : (cs.any fun z => PyData.eqv z .none) = cs.any isNone := by
  induction cs with
  | nil => rfl
  | cons c cs ih =>
    rw [List.any_cons, List.any_cons, eqv_none (h c List.mem_cons_self), ih fun x hx => h x (List.mem_cons_of_mem _ hx)]
end M
namespace J
open PySem PySem.Spec
open PyProof.Rows L2
structure Gf (mg : Str → Option Value) : Prop where
  bt : Bt mg
  longest : ∃ t, mg "LONGEST_NAME" = some (.int 8 t)
  letters : ∃ t, mg "LETTERS" = some (.str M.letters t)
  digits : ∃ t, mg "DIGITS" = some (.str M.digits t)
  mlast : ∃ t, mg "MOST_LAST" = some (.int 4 t)
  mfar : ∃ t, mg "MOST_FAR" = some (.int 4 t)
  mclasses : ∃ t, mg "MOST_CLASSES" = some (.int 3 t)
  mclauses : ∃ t, mg "MOST_CLAUSES" = some (.int 3 t)
  mrounds : ∃ t, mg "MOST_ROUNDS" = some (.int 5 t)
  mplans : ∃ t, mg "MOST_PLANS" = some (.int 4 t)
  mbase : ∃ t, mg "MOST_BASE" = some (.int 4 t)
section
variable {w : World} {P : Program} {K : PySem.W.Frag} {base : Heap} {mg : Str → Option Value}
theorem scIsInteger : FnScope ["value"] ["value"] (defScope sIsInteger) := ⟨rfl, rfl, rfl, by decide +kernel, rfl, by decide +kernel, by decide +kernel⟩
theorem cIsInteger (T : Gf mg) (D : Df K mg "is_integer" sIsInteger) : Cal P w K mg base "is_integer" 1 ["value"] (fn1 (fun d => isObj d = false) fun d => .bool (M.isInteger d)) := by
  refine D.cal scIsInteger (fun _ _ _ _ _ _ us hl => len1 us hl fun _ => rfl) (by decide) (fun rs μ r μ' h => by obtain ⟨d, _, _, _, rfl⟩ := h; rfl) fun f cdv A outer s H E hr rs μ r μ' hC => ?_
  obtain ⟨d, rfl, hob, rfl, rfl⟩ := hC
  refine ST.retP (EV.andD (isI T.bt (nm 0) (kit_int d) (by decide +kernel) T.bt.int) fun _ => EV.one (EV.not (isI T.bt (nm 0) (kit_bool d) (by decide +kernel) T.bt.bool))) ?_ (by simp)
  cases d <;> rfl
theorem scIsName : FnScope ["value", "sign"] ["value"] (defScope sIsName) := ⟨rfl, rfl, rfl, by decide +kernel, rfl, by decide +kernel, by decide +kernel⟩
theorem cIsName (T : Gf mg) (D : Df K mg "is_name" sIsName) : Cal P w K mg base "is_name" 1 ["value"] (fn1 (fun d => isObj d = false ∧ ∀ s, d = .str s → s.length ≤ 1000000) fun d => .bool (M.isName d)) := by
  refine D.cal scIsName (fun _ _ _ _ _ _ us hl => len1 us hl fun _ => rfl) (by decide) (fun rs μ r μ' h => by obtain ⟨d, _, _, _, rfl⟩ := h; rfl) fun f cdv A outer s H E hr rs μ r μ' hC => ?_
  obtain ⟨d, rfl, ⟨hob, hs⟩, rfl, rfl⟩ := hC
  cases hd : isStrL d with
  | false =>
    refine ST.ifYes (WV.tv (WV.orT (TV.not (TV.val (isI T.bt (nm 0) (kit_str d) (by decide +kernel) T.bt.str))) (by rw [hd]; rfl))) rfl ?_
    refine ST.retP EV.bl ?_ (by simp)
    cases d <;> first | rfl | cases hd
  | true =>
    obtain ⟨s, rfl⟩ : ∃ s, d = .str s := by cases d <;> first | exact ⟨_, rfl⟩ | cases hd
    have hl := sz (hs s rfl)
    refine ST.ifR (WV.tv (WV.orF (TV.not (TV.val (isI T.bt (nm 0) (kit_str _) (by decide +kernel) T.bt.str))) (WV.or1 (TV.not (tChainLe op_le op_le EV.int (bLenS T.bt (nm 0) hl) (gI T.longest)))))) (fun hk => ?_) (fun hk => ?_)
    · refine ST.retP EV.bl ?_ (by simp)
      have : M.nameOk s = false := by
        unfold M.nameOk
        simp only [Bool.not_eq_true', ] at hk
        rw [hk, Bool.false_and]
      exact congrArg (fun b => Bb b) this.symm
    · simp only [Bool.not_eq_false', Bool.and_eq_true, decide_eq_true_eq] at hk
      obtain ⟨c, cs, hc⟩ : ∃ c cs, s.cps.toList = c :: cs := by
        cases q : s.cps.toList with
        | nil =>
          have : s.length = 0 := by show s.cps.size = 0; rw [← Array.length_toList, q]; rfl
          omega
        | cons c cs => exact ⟨c, cs, rfl⟩
      have h0 : atI s.cps.toList 0 = some c := at_nat (i := 0) (by rw [hc]; rfl)
      have hsz : s.length = s.cps.size := rfl
      refine ST.retP (EV.andD (cInSign (ixS (nm 0) EV.int hl h0) (gS T.letters)) fun _ => EV.one (bAll (bs := s.cps.toList.map M.signOk) T.bt rfl (EV.eq (LCV.evf (own := [("sign", 1)]) (LCV.map (sgn1 M.signOk) (IV.str (nm 0)) (fun d hd => ?_) (by simp [strD]; omega)) rfl scIsName.nd (blkOk_by (N := ["value", "sign"]) (sc := defScope sIsName) (by decide +kernel))).ev ?_))) ?_ (by simp)
      · obtain ⟨c, _, rfl⟩ := List.mem_map.mp hd
        exact ⟨_, fun _ _ _ _ _ => GV.name (i := 1) scIsName.nd rfl (Or.inl rfl) (by simp), fun _ _ _ _ _ => cInSign (nm 1) (oAddS (gS T.letters) (gS T.digits) (by decide))⟩
      · exact congrArg Ls (sgn1_map _ _)
      · have : M.nameOk s = (decide (c ∈ M.letters.cps.toList) && (s.cps.toList.map M.signOk).all id) := by
          unfold M.nameOk
          rw [hc]
          simp [hk.1, hk.2, List.all_map]
        exact congrArg (fun b => Bb b) this.symm
theorem scIsGoal : FnScope ["value", "lasts", "many"] ["value"] (defScope sIsGoal) := ⟨rfl, rfl, rfl, by decide +kernel, rfl, by decide +kernel, by decide +kernel⟩
noncomputable def lastD : PyData → PyData
  | .int i => .str (catS Str.empty ["last ", M.strI i])
  | d => d
theorem lasts_eq : (rngD 1 4).map lastD = M.lasts := by
  show [lastD (.int 1), lastD (.int 2), lastD (.int 3), lastD (.int 4)] = _
  have h : ∀ i : _root_.Fin 5, catS Str.empty ["last ", M.strI (i.val : Int)] = ([("last 0" : Str), "last 1", "last 2", "last 3", "last 4"][i.val]) := by decide +kernel
  have h1 := h 1
  have h2 := h 2
  have h3 := h 3
  have h4 := h 4
  show [PyData.str _, PyData.str _, PyData.str _, PyData.str _] = _
  exact congr (congrArg List.cons (congrArg PyData.str h1)) (congr (congrArg List.cons (congrArg PyData.str h2)) (congr (congrArg List.cons (congrArg PyData.str h3)) (congr (congrArg List.cons (congrArg PyData.str h4)) rfl)))
theorem last_fit (i : Int) (h : i = 1 ∨ i = 2 ∨ i = 3 ∨ i = 4) : fitS Str.empty ["last ", M.strI i] := by
  rcases h with rfl | rfl | rfl | rfl <;> exact ⟨by decide +kernel, by decide +kernel, trivial⟩
theorem rng_mem {lo : Int} {n : Nat} {d : PyData} (h : d ∈ rngD lo n) : ∃ k : Nat, k < n ∧ d = .int (lo + k) := by
  obtain ⟨k, hk, rfl⟩ := List.mem_map.mp h
  exact ⟨k, List.mem_range.mp hk, rfl⟩
theorem cIsGoal (T : Gf mg) (D : Df K mg "is_goal" sIsGoal) : Cal P w K mg base "is_goal" 1 ["value"] (fn1 (fun d => isObj d = false) fun d => .bool (M.isGoal d)) := by
  refine D.cal scIsGoal (fun _ _ _ _ _ _ us hl => len1 us hl fun _ => rfl) (by decide) (fun rs μ r μ' h => by obtain ⟨d, _, _, _, rfl⟩ := h; rfl) fun f cdv A outer s H E hr rs μ r μ' hC => ?_
  obtain ⟨d, rfl, hob, rfl, rfl⟩ := hC
  refine ST.lc (i := 1) (own := [("many", 2)]) (LCV.map lastD (IV.rng2 EV.int (oAdd (gI T.mlast) EV.int) (by decide) T.bt.range) (fun d hd => ?_) (by decide)) rfl scIsGoal.nd rfl rfl (blkOk_by (N := ["value", "lasts", "many"]) (sc := defScope sIsGoal) (by decide +kernel)) ?_ (sw_true rfl rfl rfl (by decide +kernel))
  · obtain ⟨k, hk, rfl⟩ := rng_mem hd
    have hk4 : k < 4 := hk
    exact ⟨_, fun _ _ _ _ _ => GV.name (i := 2) scIsGoal.nd rfl (Or.inl rfl) (by simp), fun _ _ _ _ _ => EV.joined (JV.cons EV.str (JV.cons (EV.fmtI (nm 2) (log_small (by omega))) JV.nil)) (last_fit _ (by omega))⟩
  · have e : (rngD 1 ((4 : Int) + 1 - 1).toNat).map lastD = M.lasts := lasts_eq
    rw [e]
    cases hd : isStrL d with
    | false =>
      refine ST.retP (EV.andF (isI T.bt (nm 0) (kit_str d) (by decide +kernel) T.bt.str) hd) ?_ (by simp)
      cases d <;> first | rfl | cases hd
    | true =>
      obtain ⟨s, rfl⟩ : ∃ s, d = .str s := by cases d <;> first | exact ⟨_, rfl⟩ | cases hd
      exact ST.retP (EV.andT (isI T.bt (nm 0) (kit_str _) (by decide +kernel) T.bt.str) (EV.one (cInL (nm 0) (oCat (EV.lst (ds := [.str "all", .str "before"]) (AV.cons EV.str (AV.cons EV.str AV.nil))) (nm 1) (by decide)) rfl rfl))) rfl (by simp)
theorem scReadDigit : FnScope ["word", "low", "high", "number"] ["word", "low", "high"] (defScope sReadDigit) := ⟨rfl, rfl, rfl, by decide +kernel, rfl, by decide +kernel, by decide +kernel⟩
noncomputable def digF : PyData → PyData
  | .int i => .str (M.strI i)
  | d => d
theorem digList_eq (lo hi : Int) : (rngD lo (hi + 1 - lo).toNat).map digF = M.digList lo hi := by
  unfold M.digList
  refine List.map_congr_left fun d hd => ?_
  obtain ⟨k, _, rfl⟩ := rng_mem hd
  rfl
theorem digList_flat (lo hi : Int) : (M.digList lo hi).all flatD = true := by
  rw [← digList_eq, List.all_map, List.all_eq_true]
  intro d hd
  obtain ⟨k, _, rfl⟩ := rng_mem hd
  rfl
noncomputable def cnReadDigit : Con := fun rs μ r μ' => ∃ s lo hi, rs = [Ss s, Ii lo, Ii hi] ∧ (0 ≤ lo ∧ hi ≤ 9 ∧ lo ≤ 9 ∧ -5 ≤ hi) ∧ r = .dat (M.readDigit s lo hi) ∧ μ' = μ
theorem cReadDigit (T : Gf mg) (D : Df K mg "read_digit" sReadDigit) : Cal P w K mg base "read_digit" 1 ["word", "low", "high"] cnReadDigit := by
  refine D.cal scReadDigit (fun _ _ _ _ _ _ us hl => len3 us hl fun _ _ _ => rfl) (by decide) (fun rs μ r μ' h => by obtain ⟨_, _, _, _, _, _, rfl⟩ := h; rfl) fun f cdv A outer s0 H E hr rs μ r μ' hC => ?_
  obtain ⟨s, lo, hi, rfl, ⟨h0, h9, h1, h2⟩, rfl, rfl⟩ := hC
  refine ST.iff (tInL (nm 0) (EV.eq (LCV.evf (own := [("number", 3)]) (LCV.map digF (IV.rng2 (nm 1) (oAdd (nm 2) EV.int) (by omega) T.bt.range) (fun d hd => ?_) (by rw [rngD_len]; omega)) rfl scReadDigit.nd (blkOk_by (N := ["word", "low", "high", "number"]) (sc := defScope sReadDigit) (by decide +kernel))).ev (congrArg Ls (digList_eq lo hi))) rfl (digList_flat lo hi)) (fun hk => ?_) (fun hk => ?_)
  · obtain ⟨k, hk, rfl⟩ := rng_mem hd
    exact ⟨_, fun _ _ _ _ _ => GV.name (i := 3) scReadDigit.nd rfl (Or.inl rfl) (by simp), fun _ _ _ _ _ => bStr T.bt (nm 3) (log_small (by omega))⟩
  · obtain ⟨i, hi9, _, _, rfl⟩ := M.dig_in h0 h9 hk
    obtain ⟨e1, e2, e3⟩ := M.dig_text i hi9
    refine ST.ret (bIntS T.bt (nm 0) e1 (by rw [e3]; decide)) ⟨?_, by simp⟩
    show Ii (i : Int) = .dat (M.readDigit _ _ _)
    unfold M.readDigit
    rw [if_pos hk, e2]
  · refine ST.nil (ST.retP EV.non ?_ (by simp))
    show Nn = .dat (M.readDigit _ _ _)
    unfold M.readDigit
    rw [if_neg (by rw [hk]; exact Bool.false_ne_true)]
theorem scReadClass : FnScope ["words", "divisor", "remainder"] ["words"] (defScope sReadClass) := ⟨rfl, rfl, rfl, by decide +kernel, rfl, by decide +kernel, by decide +kernel⟩
noncomputable def cnReadClass : Con := fun rs μ r μ' => ∃ ws : List Str, rs = [Ls (ws.map .str)] ∧ True ∧ r = .dat (M.readClass ws) ∧ μ' = μ
open M (readDigit_cases)
theorem cReadClass (T : Gf mg) (C1 : Cal P w K mg base "read_digit" 1 ["word", "low", "high"] cnReadDigit) (D : Df K mg "read_class" sReadClass) : Cal P w K mg base "read_class" 2 ["words"] cnReadClass := by
  refine D.cal scReadClass (fun _ _ _ _ _ _ us hl => len1 us hl fun _ => rfl) (by decide) (fun rs μ r μ' h => by obtain ⟨_, _, _, _, rfl⟩ := h; rfl) fun f cdv A outer s0 H E hr rs μ r μ' hC => ?_
  obtain ⟨ws, rfl, _, rfl, rfl⟩ := hC
  by_cases h3 : ws.length = 3
  · obtain ⟨a, o, b, rfl⟩ : ∃ a o b, ws = [a, o, b] := by
      match ws, h3 with
      | [a, o, b], _ => exact ⟨a, o, b, rfl⟩
    refine ST.ifR (WV.tv (WV.orF (tNe (bLenL T.bt (nm 0)) EV.int) (WV.or1 (tNe (ixL (nm 0) EV.int (at_nat (i := 1) rfl)) EV.str)))) (fun hk => ?_) (fun hk => ?_)
    · refine ST.retP EV.non ?_ (by simp)
      have : (o == M.ofS) = false := by simpa [eqS, M.ofS] using hk
      show Nn = .dat (M.readClass [a, o, b])
      unfold M.readClass
      simp [this]
    · have ho : (o == M.ofS) = true := by simpa [eqS, M.ofS] using hk
      refine ST.set (i := 1) (EV.call C1 (by assumption) (AV.cons (ixL (nm 0) EV.int (at_nat (i := 2) rfl)) (AV.cons EV.int (AV.cons (gI T.mclasses) AV.nil))) ⟨b, 1, 3, rfl, by decide, rfl, rfl⟩) scReadClass.nd rfl (Or.inl rfl) ?_
      have hr : M.readClass [a, o, b] = (match M.readDigit b 1 3 with
        | .int d => (match M.readDigit a 0 (d - 1) with
          | .int e => .tuple [.int e, .int d]
          | _ => .none)
        | _ => .none) := by
        show (if (o == M.ofS) = true then _ else _) = _
        rw [if_pos ho]
        all_goals rfl
      rcases readDigit_cases b 1 3 (by decide) (by decide) with q | ⟨d, d1, d3, q⟩
      · rw [q] at hr
        rw [hr, q]
        exact ST.ifYes (tIsN (nm 1)) rfl (ST.retP EV.non rfl)
      · rw [q] at hr
        dsimp only at hr
        rw [hr, q]
        refine ST.ifNo (tIsN (nm 1)) rfl ?_
        refine ST.set (i := 2) (EV.call C1 (by assumption) (AV.cons (ixL (nm 0) EV.int (at_nat (i := 0) rfl)) (AV.cons EV.int (AV.cons (oSub (nm 1) EV.int) AV.nil))) ⟨a, 0, d - 1, rfl, by omega, rfl, rfl⟩) scReadClass.nd rfl (Or.inl rfl) ?_
        rcases readDigit_cases a 0 (d - 1) (by decide) (by omega) with q2 | ⟨x, x1, x3, q2⟩
        · rw [q2]
          exact ST.ifYes (tIsN (nm 2)) rfl (ST.retP EV.non rfl)
        · rw [q2]
          refine ST.ifNo (tIsN (nm 2)) rfl ?_
          exact ST.retP (EV.tup (ds := [.int x, .int d]) (AV.cons (nm 2) (AV.cons (nm 1) AV.nil))) rfl
  · refine ST.ifYes (WV.tv (WV.orT (tNe (bLenL T.bt (nm 0)) EV.int) (by simp [eqS]; omega))) rfl (ST.retP EV.non ?_ (by simp))
    show Nn = .dat (M.readClass ws)
    unfold M.readClass
    split
    · exact absurd rfl h3
    · rfl
theorem scReadWay : FnScope ["words", "far"] ["words"] (defScope sReadWay) := ⟨rfl, rfl, rfl, by decide +kernel, rfl, by decide +kernel, by decide +kernel⟩
noncomputable def cnReadWay : Con := fun rs μ r μ' => ∃ ws : List Str, rs = [Ls (ws.map .str)] ∧ True ∧ r = .dat (M.readWay ws) ∧ μ' = μ
theorem cReadWay (T : Gf mg) (C1 : Cal P w K mg base "read_digit" 1 ["word", "low", "high"] cnReadDigit) (D : Df K mg "read_way" sReadWay) : Cal P w K mg base "read_way" 2 ["words"] cnReadWay := by
  refine D.cal scReadWay (fun _ _ _ _ _ _ us hl => len1 us hl fun _ => rfl) (by decide) (fun rs μ r μ' h => by obtain ⟨_, _, _, _, rfl⟩ := h; rfl) fun f cdv A outer s0 H E hr rs μ r μ' hC => ?_
  obtain ⟨ws, rfl, _, rfl, rfl⟩ := hC
  by_cases h2 : ws.length = 2
  · obtain ⟨a, b, rfl⟩ : ∃ a b, ws = [a, b] := by
      match ws, h2 with
      | [a, b], _ => exact ⟨a, b, rfl⟩
    refine ST.ifR (WV.tv (WV.orF (tNe (bLenL T.bt (nm 0)) EV.int) (WV.or1 (tNiT (ixL (nm 0) EV.int (at_nat (i := 0) rfl)) (EV.tup (ds := [.str "left", .str "right"]) (AV.cons EV.str (AV.cons EV.str AV.nil))) rfl rfl)))) (fun hk => ?_) (fun hk => ?_)
    · refine ST.retP EV.non ?_
      have : inD (.str a) [.str "left", .str "right"] = false := by simpa using hk
      show Nn = .dat (M.readWay [a, b])
      show _ = Ent.dat (if inD (.str a) [.str "left", .str "right"] = true then _ else _)
      rw [this]
      rfl
    · have ha : inD (.str a) [.str "left", .str "right"] = true := by simpa using hk
      have hw : M.readWay [a, b] = (match M.readDigit b 1 4 with
        | .int n => if a == "right" then .int n else .int (-n)
        | _ => .none) := by
        show (if inD (.str a) [.str "left", .str "right"] = true then _ else _) = _
        rw [if_pos ha]
        all_goals rfl
      refine ST.set (i := 1) (EV.call C1 hr (AV.cons (ixL (nm 0) EV.int (at_nat (i := 1) rfl)) (AV.cons EV.int (AV.cons (gI T.mfar) AV.nil))) ⟨b, 1, 4, rfl, by decide, rfl, rfl⟩) scReadWay.nd rfl (Or.inl rfl) ?_
      rcases readDigit_cases b 1 4 (by decide) (by decide) with q | ⟨d, d1, d3, q⟩
      · rw [q] at hw
        rw [hw, q]
        exact ST.ifYes (WV.tv (WV.orT (tIsN (nm 1)))) rfl (ST.retP (nm 1) rfl)
      · rw [q] at hw
        dsimp only at hw
        rw [hw, q]
        refine ST.ifR (WV.tv (WV.orF (tIsN (nm 1)) (WV.or1 (tEq (ixL (nm 0) EV.int (at_nat (i := 0) rfl)) EV.str)))) (fun hk => ?_) (fun hk => ?_)
        · have hk' : (a == "right") = true := hk
          rw [if_pos hk']
          exact ST.retP (nm 1) rfl
        · have hk' : (a == "right") = false := hk
          rw [if_neg (by rw [hk']; exact Bool.false_ne_true)]
          exact ST.retP (EV.neg (nm 1)) rfl
  · refine ST.ifYes (WV.tv (WV.orT (tNe (bLenL T.bt (nm 0)) EV.int) (by simp [eqS]; omega))) rfl (ST.retP EV.non ?_)
    show Nn = .dat (M.readWay ws)
    unfold M.readWay
    split
    · exact absurd rfl h2
    · rfl
theorem scPutClause : FnScope ["deed", "place", "more", "remainder", "divisor"] ["deed", "place", "more"] (defScope sPutClause) := ⟨rfl, rfl, rfl, by decide +kernel, rfl, by decide +kernel, by decide +kernel⟩
noncomputable def cnPutClause : Con := fun rs μ r μ' => ∃ (s : Str) (pl mo : PyData), rs = [Ss s, .dat pl, .dat mo] ∧ (pl = .none ∨ ∃ e d, pl = .tuple [e, d]) ∧ r = .dat (M.putClause s pl mo) ∧ μ' = μ
theorem cPutClause (D : Df K mg "put_clause" sPutClause) : Cal P w K mg base "put_clause" 1 ["deed", "place", "more"] cnPutClause := by
  refine D.cal scPutClause (fun _ _ _ _ _ _ us hl => len3 us hl fun _ _ _ => rfl) (by decide) (fun rs μ r μ' h => by obtain ⟨_, _, _, _, _, _, rfl⟩ := h; rfl) fun f cdv A outer s0 H E hr rs μ r μ' hC => ?_
  obtain ⟨s, pl, mo, rfl, hp, rfl, rfl⟩ := hC
  rcases hp with rfl | ⟨e, d, rfl⟩
  · exact ST.ifYes (WV.tv (WV.orT (tIsN (nm 1)))) rfl (ST.retP EV.non rfl)
  · refine ST.ifR (WV.tv (WV.orF (tIsN (nm 1)) (WV.or1 (tIsN (nm 2))))) (fun hk => ?_) (fun hk => ?_)
    · refine ST.retP EV.non ?_
      show Nn = Ent.dat (if isNone mo = true then _ else _)
      rw [if_pos hk]
    · have hn : M.putClause s (.tuple [e, d]) mo = .tuple [.str s, e, d, mo] := by
        show (if isNone mo = true then _ else _) = _
        rw [hk]
        try rfl
      rw [hn]
      refine ST.asg (is := [3, 4]) (nm 1) (GV.tup (GsV.cons (GV.name (i := 3) scPutClause.nd rfl (Or.inl rfl) (by simp)) (GsV.cons (GV.name (i := 4) scPutClause.nd rfl (Or.inl rfl) (by simp)) GsV.nil))) ?_
      exact ST.retP (EV.tup (ds := [.str s, e, d, mo]) (AV.cons (nm 0) (AV.cons (nm 3) (AV.cons (nm 4) (AV.cons (nm 2) AV.nil))))) rfl
end
end J
namespace J
open PySem PySem.Spec
open PyProof.Rows L2
section
variable {w : World} {P : Program} {K : PySem.W.Frag} {base : Heap} {mg : Str → Option Value}
theorem scReadClause : FnScope ["text", "words", "deed"] ["text"] (defScope sReadClause) := ⟨rfl, rfl, rfl, by decide +kernel, rfl, by decide +kernel, by decide +kernel⟩
noncomputable def cnReadClause : Con := fun rs μ r μ' => ∃ s : Str, rs = [Ss s] ∧ s.length ≤ 1000000 ∧ r = .dat (M.readClause s) ∧ μ' = μ
theorem cReadClause (T : Gf mg) (C1 : Cal P w K mg base "read_class" 2 ["words"] cnReadClass) (C2 : Cal P w K mg base "read_way" 2 ["words"] cnReadWay) (C3 : Cal P w K mg base "put_clause" 1 ["deed", "place", "more"] cnPutClause)
    (C4 : Cal P w K mg base "is_name" 1 ["value"] (fn1 (fun d => isObj d = false ∧ ∀ s, d = .str s → s.length ≤ 1000000) fun d => .bool (M.isName d))) (D : Df K mg "read_clause" sReadClause) : Cal P w K mg base "read_clause" 3 ["text"] cnReadClause := by
  refine D.cal scReadClause (fun _ _ _ _ _ _ us hl => len1 us hl fun _ => rfl) (by decide) (fun rs μ r μ' h => by obtain ⟨_, _, _, _, rfl⟩ := h; rfl) fun f cdv A outer s0 H E hr rs μ r μ' hC => ?_
  obtain ⟨s, rfl, hs, rfl, rfl⟩ := hC
  have hr1 := hr.mono (show 1 ≤ 2 by decide)
  obtain ⟨deed, ws, hsp⟩ := M.split_ne s " " (by decide +kernel) (by decide +kernel)
  refine ST.set (i := 1) (EV.split (nm 0) EV.str (by decide +kernel) (sz2 hs)) scReadClause.nd rfl (Or.inl rfl) ?_
  rw [hsp]
  have hrc : M.readClause s = (if inD (.str deed) [.str "join", .str "take"] then M.putClause deed (M.readClass (M.cutL (deed :: ws) (some 1) (some 4))) (M.readWay (M.cutL (deed :: ws) (some 4) none))
    else if deed == "clear" then M.putClause deed (M.readClass (M.cutL (deed :: ws) (some 1) none)) (.int 0)
    else if deed == "call" then (match deed :: ws with
      | [a, n, o, x, y, z] => if M.nameOk n && o == "on" then M.putClause deed (M.readClass (M.cutL [a, n, o, x, y, z] (some 3) none)) (.str n) else .none
      | _ => .none)
    else .none) := by
    unfold M.readClause
    rw [hsp]
    all_goals rfl
  rw [hrc]
  have hcl : ∀ vs : List Str, M.readClass vs = .none ∨ ∃ e d, M.readClass vs = .tuple [e, d] := fun vs => (M.readClass_cases vs).imp id fun ⟨e, d, _, _, _, h⟩ => ⟨_, _, h⟩
  refine ST.set (i := 2) (ixL (nm 1) EV.int (at_nat (i := 0) rfl)) scReadClause.nd rfl (Or.inl rfl) ?_
  refine ST.ifR (tInT (nm 2) (EV.tup (ds := [.str "join", .str "take"]) (AV.cons EV.str (AV.cons EV.str AV.nil))) rfl rfl) (fun hk => ?_) (fun hk => ?_)
  · rw [if_pos hk]
    exact ST.retP (EV.call C3 hr1 (AV.cons (nm 2) (AV.cons (EV.call C1 hr (AV.cons (EV.slL (nm 1) (PartV.some EV.int) (PartV.some EV.int)) AV.nil) ⟨M.cutL (deed :: ws) (some 1) (some 4), congrArg (fun z => [Ls z]) (M.cutD_map PyData.str (deed :: ws) _ _), trivial, rfl, rfl⟩)
      (AV.cons (EV.call C2 hr (AV.cons (EV.slL (nm 1) (PartV.some EV.int) PartV.none) AV.nil) ⟨M.cutL (deed :: ws) (some 4) none, congrArg (fun z => [Ls z]) (M.cutD_map PyData.str (deed :: ws) _ _), trivial, rfl, rfl⟩) AV.nil))) ⟨deed, _, _, rfl, hcl _, rfl, rfl⟩) rfl
  · rw [if_neg (by rw [hk]; exact Bool.false_ne_true)]
    refine ST.ifR (tEq (nm 2) EV.str) (fun hk => ?_) (fun hk => ?_)
    · have hk' : (deed == "clear") = true := hk
      rw [if_pos hk']
      exact ST.retP (EV.call C3 hr1 (AV.cons (nm 2) (AV.cons (EV.call C1 hr (AV.cons (EV.slL (nm 1) (PartV.some EV.int) PartV.none) AV.nil) ⟨M.cutL (deed :: ws) (some 1) none, congrArg (fun z => [Ls z]) (M.cutD_map PyData.str (deed :: ws) _ _), trivial, rfl, rfl⟩)
        (AV.cons EV.int AV.nil))) ⟨deed, _, _, rfl, hcl _, rfl, rfl⟩) rfl
    · have hk' : (deed == "clear") = false := hk
      rw [if_neg (by rw [hk']; exact Bool.false_ne_true)]
      cases hc : (deed == "call") with
      | false =>
        rw [if_neg (by simp)]
        refine ST.ifNo (WV.tv (WV.andF (tEq (nm 2) EV.str) (by exact hc))) rfl (ST.retP EV.non rfl)
      | true =>
        rw [if_pos rfl]
        by_cases h6 : (deed :: ws).length = 6
        · obtain ⟨n, o, x, y, z, rfl⟩ : ∃ n o x y z, ws = [n, o, x, y, z] := by
            match ws, h6 with
            | [n, o, x, y, z], _ => exact ⟨n, o, x, y, z, rfl⟩
          have hn : n.length ≤ 1000000 := Nat.le_trans (M.split_len s " " (by decide +kernel) (by decide +kernel) n (by rw [hsp]; simp)) hs
          show ST _ _ _ _ _ _ (PostR (.dat (if (M.nameOk n && o == "on") = true then _ else _)) _)
          refine ST.ifR (WV.tv (WV.andT (tEq (nm 2) EV.str) (WV.andT (tEq (bLenL T.bt (nm 1)) EV.int) (WV.andP (TV.val (EV.call C4 hr1 (AV.cons (ixL (nm 1) EV.int (at_nat (i := 1) rfl)) AV.nil) ⟨_, rfl, ⟨rfl, fun s h => by cases h; exact hn⟩, rfl, rfl⟩)) (WV.and1 (tEq (ixL (nm 1) EV.int (at_nat (i := 2) rfl)) EV.str)))) (by exact hc))) (fun hk => ?_) (fun hk => ?_)
          · have hk2 : (M.nameOk n && o == "on") = true := hk
            rw [if_pos hk2]
            exact ST.retP (EV.call C3 hr1 (AV.cons (nm 2) (AV.cons (EV.call C1 hr (AV.cons (EV.slL (nm 1) (PartV.some EV.int) PartV.none) AV.nil) ⟨M.cutL (deed :: [n, o, x, y, z]) (some 3) none, congrArg (fun z => [Ls z]) (M.cutD_map PyData.str (deed :: [n, o, x, y, z]) _ _), trivial, rfl, rfl⟩)
              (AV.cons (ixL (nm 1) EV.int (at_nat (i := 1) rfl)) AV.nil))) ⟨deed, _, _, rfl, hcl _, rfl, rfl⟩) rfl
          · have hk2 : (M.nameOk n && o == "on") = false := hk
            rw [if_neg (by rw [hk2]; exact Bool.false_ne_true)]
            exact ST.retP EV.non rfl
        · refine ST.ifNo (WV.tv (WV.andT (tEq (nm 2) EV.str) (WV.andF (tEq (bLenL T.bt (nm 1)) EV.int) (by simp [eqS] at h6 ⊢; omega)) (by exact hc))) rfl (ST.retP EV.non ?_)
          split
          · rename_i heq
            exact absurd (by rw [heq]; rfl) h6
          · rfl
end
end J
namespace J
open PySem PySem.Spec
open PyProof.Rows L2
section
variable {w : World} {P : Program} {K : PySem.W.Frag} {base : Heap} {mg : Str → Option Value}
noncomputable abbrev nSP : List Str := ["clause", "other", "remainder", "divisor", "other_remainder", "other_divisor", "place"]
theorem scSharePlace : FnScope nSP ["clause", "other"] (defScope sSharePlace) := ⟨rfl, rfl, rfl, by decide +kernel, rfl, by decide +kernel, by decide +kernel⟩
noncomputable def cnSharePlace : Con := fun rs μ r μ' => ∃ c o, rs = [.dat c, .dat o] ∧ (M.WfC c ∧ M.WfC o) ∧ r = Bb (M.share c o) ∧ μ' = μ
theorem cSharePlace (T : Gf mg) (D : Df K mg "share_place" sSharePlace) : Cal P w K mg base "share_place" 1 ["clause", "other"] cnSharePlace := by
  refine D.cal scSharePlace (fun _ _ _ _ _ _ us hl => len2 us hl fun _ _ => rfl) (by decide) (fun rs μ r μ' h => by obtain ⟨_, _, _, _, _, rfl⟩ := h; rfl) fun f cdv A outer s0 H E hr rs μ r μ' hC => ?_
  obtain ⟨c, o, rfl, ⟨hc, ho⟩, rfl, rfl⟩ := hC
  obtain ⟨n1, e, d, m1, rfl, e0, ed, d3, _, _⟩ := hc
  obtain ⟨n2, e2, d2, m2, rfl, e20, ed2, d23, _, _⟩ := ho
  refine ST.asg (is := [2, 3]) (EV.eq (EV.slT (nm 0) (PartV.some EV.int) (PartV.some EV.int)) (show Tp _ = .dat (.tuple [.int e, .int d]) from rfl)) (GV.tup (GsV.cons (GV.name (i := 2) scSharePlace.nd rfl (by first | exact Or.inl rfl | exact Or.inr rfl) (by simp)) (GsV.cons (GV.name (i := 3) scSharePlace.nd rfl (by first | exact Or.inl rfl | exact Or.inr rfl) (by simp)) GsV.nil))) ?_
  refine ST.asg (is := [4, 5]) (EV.eq (EV.slT (nm 1) (PartV.some EV.int) (PartV.some EV.int)) (show Tp _ = .dat (.tuple [.int e2, .int d2]) from rfl)) (GV.tup (GsV.cons (GV.name (i := 4) scSharePlace.nd rfl (by first | exact Or.inl rfl | exact Or.inr rfl) (by simp)) (GsV.cons (GV.name (i := 5) scSharePlace.nd rfl (by first | exact Or.inl rfl | exact Or.inr rfl) (by simp)) GsV.nil))) ?_
  have h9 : 0 < d * d2 ∧ d * d2 ≤ 9 := by
    have a1 : d = 1 ∨ d = 2 ∨ d = 3 := by omega
    have a2 : d2 = 1 ∨ d2 = 2 ∨ d2 = 3 := by omega
    rcases a1 with rfl | rfl | rfl <;> rcases a2 with rfl | rfl | rfl <;> decide
  refine ST.retP (bAny (bs := (rngD 0 (d * d2).toNat).map (M.hit e d e2 d2)) T.bt rfl (EV.eq (LCV.evf (own := [("place", 6)]) (LCV.map (fun x => .bool (M.hit e d e2 d2 x)) (IV.rng1 (oMul (nm 3) (nm 5) (.inl (by omega))) (by omega) (by omega) T.bt.range) (fun x hx => ?_) (by rw [rngD_len]; omega)) rfl scSharePlace.nd (blkOk_by (N := nSP) (sc := defScope sSharePlace) (by decide +kernel))).ev ?_)) ?_
  · obtain ⟨k, hk, rfl⟩ := rng_mem hx
    refine ⟨_, fun _ _ _ _ _ => GV.name (i := 6) scSharePlace.nd rfl (Or.inl rfl) (by simp), fun _ _ _ _ _ => ?_⟩
    exact EV.eq (EV.andD (cEq (oMod (nm 6) (nm 3) (by omega)) (nm 2)) fun _ => EV.one (cEq (oMod (nm 6) (nm 5) (by omega)) (nm 4))) rfl
  · rw [List.map_map]
    rfl
  · show Bb _ = Bb _
    rw [List.any_map]
    rfl
noncomputable abbrev nFT : List Str := ["clauses", "calls", "clause", "at", "other"]
theorem scFitTogether : FnScope nFT ["clauses"] (defScope sFitTogether) := ⟨rfl, rfl, rfl, by decide +kernel, rfl, by decide +kernel, by decide +kernel⟩
noncomputable def cnFit : Con := fun rs μ r μ' => ∃ cs, rs = [Ls cs] ∧ (cs.length ≤ 3 ∧ ∀ c ∈ cs, M.WfC c) ∧ r = Bb (M.fit cs) ∧ μ' = μ
theorem enD_mem {ds : List PyData} {n : Nat} {d : PyData} (h : d ∈ enD n ds) : ∃ (i : Nat) (c : PyData), ds[i]? = some c ∧ d = .tuple [.int ((n + i : Nat) : Int), c] := by
  obtain ⟨i, hi⟩ := List.mem_iff_getElem?.mp h
  obtain ⟨c, h1, h2⟩ := enD_get hi
  exact ⟨i, c, h1, h2⟩
theorem cutD_mem {cs : List PyData} {lo hi : Option Int} {x : PyData} (h : x ∈ cutD cs lo hi) : x ∈ cs := List.mem_of_mem_drop (List.mem_of_mem_take h)
theorem cutD_len {cs : List PyData} {lo hi : Option Int} : (cutD cs lo hi).length ≤ cs.length := by
  unfold cutD
  rw [List.length_take, List.length_drop]
  omega
theorem ahead_len {cs : List PyData} {d : PyData} : (M.ahead cs d).length ≤ cs.length := by
  have key : M.ahead cs d = [] ∨ ∃ i, M.ahead cs d = cutD cs none (some i) := by
    cases d with
    | tuple l =>
      match l with
      | [] => exact .inl rfl
      | [a] => cases a <;> exact .inl rfl
      | _ :: _ :: _ :: _ =>
        rename_i a _ _ _
        cases a <;> exact .inl rfl
      | [a, _] =>
        cases a with
        | int i => exact .inr ⟨i, rfl⟩
        | _ => exact .inl rfl
    | _ => exact .inl rfl
  rcases key with e | ⟨i, e⟩
  · rw [e]
    exact Nat.zero_le _
  · rw [e]
    exact cutD_len
theorem flat_len {α : Type} (F : α → List PyData) (m : Nat) (hF : ∀ d, (F d).length ≤ m) : ∀ (l : List α), (l.flatMap F).length ≤ l.length * m
  | [] => by simp
  | d :: l => by
    rw [List.flatMap_cons, List.length_append, List.length_cons, Nat.add_mul]
    have := flat_len F m hF l
    have := hF d
    omega
theorem cFit (T : Gf mg) (C1 : Cal P w K mg base "share_place" 1 ["clause", "other"] cnSharePlace) (D : Df K mg "fit_together" sFitTogether) : Cal P w K mg base "fit_together" 2 ["clauses"] cnFit := by
  refine D.cal scFitTogether (fun _ _ _ _ _ _ us hl => len1 us hl fun _ => rfl) (by decide) (fun rs μ r μ' h => by obtain ⟨_, _, _, _, rfl⟩ := h; rfl) fun f cdv A outer s0 H E hr rs μ r μ' hC => ?_
  obtain ⟨cs, rfl, ⟨h3, hw⟩, rfl, rfl⟩ := hC
  refine ST.lc (i := 1) (own := [("clause", 2)]) (LCV.map (fun c => .bool (M.isCall c)) (IV.lst (nm 0)) (fun c hc => ?_) (by omega)) rfl scFitTogether.nd rfl rfl (blkOk_by (N := nFT) (sc := defScope sFitTogether) (by decide +kernel)) ?_ (sw_true rfl rfl rfl (by decide +kernel))
  · obtain ⟨n1, e, d, m1, rfl, _⟩ := hw c hc
    exact ⟨_, fun _ _ _ _ _ => GV.name (i := 2) scFitTogether.nd rfl (Or.inl rfl) (by simp), fun _ _ _ _ _ => EV.eq (cEq (ixT (nm 2) EV.int (at_nat (i := 0) rfl)) EV.str) rfl⟩
  · have ec : cs.map (fun c => PyData.bool (M.isCall c)) = (cs.map M.isCall).map .bool := by rw [List.map_map]; rfl
    rw [ec]
    have hf : M.fit cs = (if (cs.map M.isCall).any id && !((cs.map M.isCall).all id) then false else !(((enD 0 cs).flatMap fun d => (M.ahead cs d).map (M.shareAt d)).any id)) := rfl
    refine ST.ifR (WV.tv (WV.andP (TV.val (bAny T.bt rfl (nm 1))) (WV.and1 (TV.not (TV.val (bAll T.bt rfl (nm 1))))))) (fun hk => ?_) (fun hk => ?_)
    · refine ST.retP EV.bl ?_
      rw [hf, if_pos hk]
      rfl
    · have e2 : M.fit cs = !(((enD 0 cs).flatMap fun d => (M.ahead cs d).map (M.shareAt d)).any id) := by rw [hf, if_neg (by rw [hk]; exact Bool.false_ne_true)]
      rw [e2]
      refine ST.retP (EV.not (bAny (bs := (enD 0 cs).flatMap fun d => (M.ahead cs d).map (M.shareAt d)) T.bt rfl (EV.eq (LCV2.evf (own := [("at", 3), ("clause", 2), ("other", 4)]) (vs1 := [4]) (M.ahead cs) (fun d o => .bool (M.shareAt d o)) (IV.enum (nm 0) T.bt.enumerate) rfl scFitTogether.nd (blkOk_by (N := nFT) (sc := defScope sFitTogether) (by decide +kernel)) (by simp) (fun d hd => ?_) (fun m => ?_) (fun m d hd m2 => ?_)).ev ?_))) rfl
      · obtain ⟨i, c, hc, rfl⟩ := enD_mem hd
        have hcm : c ∈ cs := List.mem_iff_getElem?.mpr ⟨i, hc⟩
        refine ⟨_, fun _ _ _ _ _ => GV.tup (GsV.cons (GV.name (i := 3) scFitTogether.nd rfl (by first | exact Or.inl rfl | exact Or.inr rfl) (by simp)) (GsV.cons (GV.name (i := 2) scFitTogether.nd rfl (by first | exact Or.inl rfl | exact Or.inr rfl) (by simp)) GsV.nil)), fun _ _ _ _ _ => IV.lst (EV.slL (nm 0) PartV.none (PartV.some (nm 3))), fun o ho => ?_⟩
        refine ⟨_, fun _ _ _ _ _ => GV.name (i := 4) scFitTogether.nd rfl (Or.inl rfl) (by simp), fun _ _ _ _ _ => ?_⟩
        exact EV.call C1 hr (AV.cons (nm 2) (AV.cons (nm 4) AV.nil)) ⟨c, o, rfl, ⟨hw c hcm, hw o (cutD_mem ho)⟩, rfl, rfl⟩
      · refine Nat.le_trans (flat_len _ 3 (fun d => by rw [List.length_map]; exact Nat.le_trans ahead_len h3) _) ?_
        rw [List.length_take, enD_len]
        omega
      · have h1 : (M.ahead cs d).length ≤ 3 := Nat.le_trans ahead_len h3
        by_cases hm : m2 ≤ 3
        · refine .inl ?_
          have := flat_len (fun d => (M.ahead cs d).map fun o => PyData.bool (M.shareAt d o)) 3 (fun d => by rw [List.length_map]; exact Nat.le_trans ahead_len h3) ((enD 0 cs).take m)
          rw [List.length_take, enD_len] at this
          omega
        · exact .inr (by omega)
      · rw [List.map_flatMap]
        congr 2
        funext d
        rw [List.map_map]
        rfl
noncomputable abbrev nRR : List Str := ["text", "clauses", "part"]
theorem scReadRound : FnScope nRR ["text"] (defScope sReadRound) := ⟨rfl, rfl, rfl, by decide +kernel, rfl, by decide +kernel, by decide +kernel⟩
noncomputable def cnReadRound : Con := fun rs μ r μ' => ∃ d, rs = [.dat d] ∧ (isObj d = false ∧ ∀ s, d = .str s → s.length ≤ 99990) ∧ r = .dat (M.readRound d) ∧ μ' = μ
noncomputable def clF : PyData → PyData
  | .str s => M.readClause s
  | d => d
theorem cReadRound (T : Gf mg) (C1 : Cal P w K mg base "read_clause" 3 ["text"] cnReadClause) (C2 : Cal P w K mg base "fit_together" 2 ["clauses"] cnFit) (D : Df K mg "read_round" sReadRound) : Cal P w K mg base "read_round" 4 ["text"] cnReadRound := by
  refine D.cal scReadRound (fun _ _ _ _ _ _ us hl => len1 us hl fun _ => rfl) (by decide) (fun rs μ r μ' h => by obtain ⟨_, _, _, _, rfl⟩ := h; rfl) fun f cdv A outer s0 H E hr rs μ r μ' hC => ?_
  obtain ⟨d, rfl, ⟨hob, hs⟩, rfl, rfl⟩ := hC
  cases hd : isStrL d with
  | false =>
    refine ST.ifYes (TV.not (TV.val (isI T.bt (nm 0) (kit_str d) (by decide +kernel) T.bt.str))) (by rw [hd]; rfl) (ST.retP EV.non ?_)
    cases d <;> first | rfl | cases hd
  | true =>
    obtain ⟨s, rfl⟩ : ∃ s, d = .str s := by cases d <;> first | exact ⟨_, rfl⟩ | cases hd
    have hl := hs s rfl
    refine ST.ifNo (TV.not (TV.val (isI T.bt (nm 0) (kit_str _) (by decide +kernel) T.bt.str))) rfl ?_
    have hpl : ((Txt.split s "; ").map PyData.str).length ≤ 100000 := by
      rw [List.length_map, M.split_list s "; " (by decide +kernel) (by decide +kernel), List.length_map]
      have : ∀ (S : List Nat) (k : Nat) (acc l : List Nat), (TL.spl S k acc l).length ≤ l.length + 1 := by
        intro S k acc l
        induction l generalizing k acc with
        | nil => rw [TL.spl_nil]; simp
        | cons c r ih =>
          cases k with
          | zero =>
            unfold TL.spl
            split
            · have := ih (S.length - 1) []
              simp
              omega
            · have := ih 0 (acc ++ [c])
              simp
              omega
          | succ k =>
            unfold TL.spl
            have := ih k acc
            simp
            omega
      have h2 := this (TL.tl "; ") 0 [] (TL.tl s)
      rw [← TL.len_tl] at h2
      omega
    refine ST.lc (i := 1) (own := [("part", 2)]) (LCV.map clF (IV.lst (EV.split (nm 0) EV.str (by decide +kernel) (sz2 (by omega)))) (fun c hc => ?_) hpl) rfl scReadRound.nd rfl rfl (blkOk_by (N := nRR) (sc := defScope sReadRound) (by decide +kernel)) ?_ (sw_true rfl rfl rfl (by decide +kernel))
    · obtain ⟨p, hp, rfl⟩ := List.mem_map.mp hc
      have := M.split_len s "; " (by decide +kernel) (by decide +kernel) p hp
      exact ⟨_, fun _ _ _ _ _ => GV.name (i := 2) scReadRound.nd rfl (Or.inl rfl) (by simp), fun _ _ _ _ _ => EV.call C1 (hr.mono (by decide)) (AV.cons (nm 2) AV.nil) ⟨p, rfl, by omega, rfl, rfl⟩⟩
    · have ec : ((Txt.split s "; ").map PyData.str).map clF = (Txt.split s "; ").map M.readClause := by rw [List.map_map]; rfl
      rw [ec]
      generalize hcs : (Txt.split s "; ").map M.readClause = cs
      have hcw : ∀ c ∈ cs, c = .none ∨ M.WfC c := by
        intro c hc
        rw [← hcs] at hc
        obtain ⟨p, _, rfl⟩ := List.mem_map.mp hc
        exact M.readClause_cases p
      have hrr : M.readRound (.str s) = (if cs.length > 3 then .none else if cs.any isNone then .none else if M.fit cs then .tuple cs else .none) := by
        rw [← hcs]
        rfl
      rw [hrr]
      have hu := hr.units
      by_cases h3 : cs.length > 3
      · rw [if_pos h3]
        exact ST.ifYes (WV.tv (WV.orT (tGt (bLenL T.bt (nm 1)) (gI T.mclauses)) (by exact decide_eq_true (by omega)))) rfl (ST.retP EV.non rfl)
      · rw [if_neg h3]
        cases hn : cs.any isNone with
        | true =>
          rw [if_pos rfl]
          exact ST.ifYes (WV.tv (WV.orF (tGt (bLenL T.bt (nm 1)) (gI T.mclauses)) (WV.orT (tInDeep (u65 hr) EV.non (nm 1) (by rfl) (M.cls_shaped hcw)) (by exact (M.any_none hcw).trans hn)) (by exact decide_eq_false (by omega)))) rfl (ST.retP EV.non rfl)
        | false =>
          rw [if_neg (by simp)]
          have hw2 : ∀ c ∈ cs, M.WfC c := fun c hc => (hcw c hc).resolve_left fun z => by
            have := List.any_eq_false.mp hn c hc
            rw [z] at this
            exact this rfl
          refine ST.ifR (WV.tv (WV.orF (tGt (bLenL T.bt (nm 1)) (gI T.mclauses)) (WV.orF (tInDeep (u65 hr) EV.non (nm 1) (by rfl) (M.cls_shaped hcw)) (WV.or1 (TV.not (TV.val (EV.call C2 (hr.mono (by decide)) (AV.cons (nm 1) AV.nil) ⟨cs, rfl, ⟨by omega, hw2⟩, rfl, rfl⟩)))) (by exact (M.any_none hcw).trans hn)) (by exact decide_eq_false (by omega)))) (fun hk => ?_) (fun hk => ?_)
          · rw [if_neg (by simp at hk; rw [hk]; exact Bool.false_ne_true)]
            exact ST.retP EV.non rfl
          · rw [if_pos (by simpa using hk)]
            exact ST.retP (bTupL T.bt (nm 1)) rfl
end
end J
namespace M
open PySem J L2
noncomputable def clauseStands (ns : List Str) (at_ : Int) : PyData → Bool
  | .tuple [.str deed, _, .int d, more] => !(deed == "call" && !inD more ((cutL ns (some (if d == 1 then at_ + 1 else 0)) none).map .str))
  | _ => false
noncomputable def canStand (text : PyData) (ns : List Str) (at_ : Int) : Bool := match readRound text with
  | .tuple cs => cs.all (clauseStands ns at_)
  | _ => false
noncomputable def areRounds : PyData → Bool
  | .tuple ds => (decide (1 ≤ (ds.length : Int)) && decide ((ds.length : Int) ≤ 5)) && ds.all fun x => !isNone (readRound x)
  | _ => false
noncomputable def baseOk : PyData → Bool
  | .int b => decide (1 ≤ b) && decide (b ≤ 4)
  | _ => false
noncomputable def isPlan : PyData → Bool
  | .tuple [n, g, b, r] => baseOk b && (isName n && (isGoal g && areRounds r))
  | _ => false
noncomputable def smallT (d : PyData) : Prop := ∀ s, d = .str s → s.length ≤ 99990
noncomputable def smallR (d : PyData) : Prop := ∀ ds, d = .tuple ds → ∀ x ∈ ds, smallT x
noncomputable def smallP (d : PyData) : Prop := ∀ n g b r, d = .tuple [n, g, b, r] → smallT n ∧ smallR r
theorem readRound_cases (d : PyData) : readRound d = .none ∨ ∃ cs, readRound d = .tuple cs ∧ ∀ c ∈ cs, WfC c := by
  unfold readRound
  split
  · rename_i s
    dsimp only
    split
    · exact .inl rfl
    · split
      · exact .inl rfl
      · rename_i h
        split
        · refine .inr ⟨_, rfl, fun c hc => ?_⟩
          obtain ⟨p, hp, rfl⟩ := List.mem_map.mp hc
          rcases readClause_cases p with q | q
          · exfalso
            apply h
            rw [List.any_eq_true]
            exact ⟨_, hc, by rw [q]; rfl⟩
          · exact q
        · exact .inl rfl
  · exact .inl rfl
noncomputable def nameOf : PyData → Str
  | .tuple (.str n :: _) => n
  | _ => Str.empty
noncomputable def roundsOf : PyData → List PyData
  | .tuple [_, _, _, .tuple rs] => rs
  | _ => []
structure Good (ps : List PyData) : Prop where
  le4 : ps.length ≤ 4
  ge1 : 1 ≤ ps.length
  each : ∀ p ∈ ps, isPlan p = true ∧ smallP p
  nd : (ps.map nameOf).Nodup
  stand : ∀ (i : Nat) (p : PyData), ps[i]? = some p → ∀ t ∈ roundsOf p, canStand t (ps.map nameOf) i = true
theorem plan_shape {p : PyData} (h : isPlan p = true) : ∃ n g b rs, p = .tuple [.str n, .str g, .int b, .tuple rs] ∧ nameOk n = true ∧ isGoal (.str g) = true ∧ 1 ≤ b ∧ b ≤ 4 ∧ areRounds (.tuple rs) = true := by
  cases p with
  | tuple l =>
    match l, h with
    | [n, g, b, r], h =>
      have h' : (baseOk b && (isName n && (isGoal g && areRounds r))) = true := h
      rw [Bool.and_eq_true, Bool.and_eq_true, Bool.and_eq_true] at h'
      obtain ⟨h1, h2, h3, h4⟩ := h'
      cases b <;> first | (cases h1; done) | skip
      cases n <;> first | (cases h2; done) | skip
      cases g <;> first | (cases h3; done) | skip
      cases r <;> first | (cases h4; done) | skip
      rename_i b n g rs
      unfold baseOk at h1
      rw [Bool.and_eq_true, decide_eq_true_eq, decide_eq_true_eq] at h1
      exact ⟨n, g, b, rs, rfl, h2, h3, h1.1, h1.2, h4⟩
    | [], h => cases h
    | [_], h => cases h
    | [_, _], h => cases h
    | [_, _, _], h => cases h
    | _ :: _ :: _ :: _ :: _ :: _, h => cases h
  | _ => cases h
theorem rounds_str {rs : List PyData} (h : areRounds (.tuple rs) = true) : ∀ x ∈ rs, ∃ s, x = .str s := by
  intro x hx
  unfold areRounds at h
  rw [Bool.and_eq_true] at h
  have h2 := List.all_eq_true.mp h.2 x hx
  cases x with
  | str s => exact ⟨s, rfl⟩
  | _ => simp [readRound, isNone] at h2
theorem plan_nob {p : PyData} (h : isPlan p = true) : nob p = true := by
  obtain ⟨n, g, b, rs, rfl, _, _, _, _, hr⟩ := plan_shape h
  have : nobAll rs = true := nobAll_of fun x hx => by
    obtain ⟨s, rfl⟩ := rounds_str hr x hx
    rfl
  simp [nob, nobAll, this]
end M
namespace J
open PySem PySem.Spec
open PyProof.Rows L2
section
variable {w : World} {P : Program} {K : PySem.W.Frag} {base : Heap} {mg : Str → Option Value}
noncomputable def NamesAt (μ : Sto) (r : Ent) (ns : List Str) : Prop := (∃ k, r = .ptr k ∧ μ[k]? = some (ns.map .str)) ∨ r = Tp (ns.map .str)
noncomputable abbrev nCS : List Str := ["text", "names", "at", "clauses", "deed", "remainder", "divisor", "more", "lowest"]
theorem scCanStand : FnScope nCS ["text", "names", "at"] (defScope sCanStand) := ⟨rfl, rfl, rfl, by decide +kernel, rfl, by decide +kernel, by decide +kernel⟩
noncomputable def cnCanStand : Con := fun rs μ r μ' => ∃ t rn ns at_, rs = [.dat t, rn, Ii at_] ∧ (isObj t = false ∧ M.smallT t ∧ NamesAt μ rn ns) ∧ r = Bb (M.canStand t ns at_) ∧ μ' = μ
theorem strs_flat (ns : List Str) : (ns.map PyData.str).all flatD = true := by
  rw [List.all_map, List.all_eq_true]
  exact fun _ _ => rfl
theorem cCanStand (C1 : Cal P w K mg base "read_round" 4 ["text"] cnReadRound) (D : Df K mg "can_stand" sCanStand) : Cal P w K mg base "can_stand" 5 ["text", "names", "at"] cnCanStand := by
  refine D.cal scCanStand (fun _ _ _ _ _ _ us hl => len3 us hl fun _ _ _ => rfl) (by decide) (fun rs μ r μ' h => by obtain ⟨_, _, _, _, _, _, _, rfl⟩ := h; rfl) fun f cdv A outer s0 H E hr rs μ r μ' hC => ?_
  obtain ⟨t, rn, ns, at_, rfl, ⟨hob, ht, hn⟩, rfl, rfl⟩ := hC
  refine ST.set (i := 3) (EV.call C1 hr (AV.cons (nm 0) AV.nil) ⟨t, rfl, ⟨hob, ht⟩, rfl, rfl⟩) scCanStand.nd rfl (Or.inl rfl) ?_
  rcases M.readRound_cases t with q | ⟨cs, q, hw⟩
  · have e : M.canStand t ns at_ = false := by
      unfold M.canStand
      rw [q]
    rw [q, e]
    exact ST.ifYes (tIsN (nm 3)) rfl (ST.retP EV.bl rfl)
  · have e : M.canStand t ns at_ = cs.all (M.clauseStands ns at_) := by
      unfold M.canStand
      rw [q]
    rw [q, e]
    refine ST.ifNo (tIsN (nm 3)) rfl ?_
    refine ST.for_ (is := [4, 5, 6, 7]) (IV.tup (nm 3)) (fun i ρ ν => (∃ a b c d g, ρ = [some (.dat t), some rn, some (Ii at_), some (Tp cs), a, b, c, d, g]) ∧ ν = μ' ∧ (cs.take i).all (M.clauseStands ns at_) = true) ⟨⟨_, _, _, _, _, rfl⟩, rfl, by simp⟩ (fun i c ρ ν hc hI => ?_) (fun ρ ν hI => ?_)
    · obtain ⟨⟨a, b, c0, d0, g, rfl⟩, rfl, hp⟩ := hI
      obtain ⟨deed, e0, d, more, rfl, h1, h2, h3, hd, hm⟩ := hw c (List.mem_iff_getElem?.mpr ⟨i, hc⟩)
      have hfm : flatD more = true := by rcases hm with ⟨i, rfl⟩ | ⟨s, rfl, _⟩ <;> rfl
      refine ⟨_, GV.tup (GsV.cons (GV.name (i := 4) scCanStand.nd rfl (Or.inl rfl) (by simp)) (GsV.cons (GV.name (i := 5) scCanStand.nd rfl (Or.inl rfl) (by simp)) (GsV.cons (GV.name (i := 6) scCanStand.nd rfl (Or.inl rfl) (by simp)) (GsV.cons (GV.name (i := 7) scCanStand.nd rfl (Or.inl rfl) (by simp)) GsV.nil)))), ?_⟩
      refine ST.set (i := 8) (r := Ii (if d == 1 then at_ + 1 else 0)) (EV.ifx (tEq (nm 6) EV.int) (fun hk => EV.eq (oAdd (nm 2) EV.int) (by have hk' : (d == 1) = true := hk; rw [if_pos hk'])) (fun hk => EV.eq EV.int (by have hk' : (d == 1) = false := hk; rw [if_neg (by rw [hk']; exact Bool.false_ne_true)]))) scCanStand.nd rfl (Or.inl rfl) ?_
      have step : (cs.take (i + 1)).all (M.clauseStands ns at_) = M.clauseStands ns at_ (.tuple [.str deed, .int e0, .int d, more]) := by
        rw [List.take_succ, hc]
        simp [hp]
      have hcl : M.clauseStands ns at_ (.tuple [.str deed, .int e0, .int d, more]) = !(deed == "call" && !inD more ((M.cutL ns (some (if d == 1 then at_ + 1 else 0)) none).map .str)) := rfl
      refine ST.iff (WV.tv (WV.andP (tEq (nm 4) EV.str) (WV.and1 (k := !inD more ((M.cutL ns (some (if d == 1 then at_ + 1 else 0)) none).map .str)) ?_))) (fun hk => ?_) (fun hk => ?_)
      · rcases hn with ⟨kk, rfl, hkk⟩ | rfl
        · exact tNiL (nm 7) (EV.eq (EV.slC (nm 1) (PartV.some (nm 8)) PartV.none hkk) (congrArg Ls (M.cutD_map _ _ _ _))) hfm (strs_flat _)
        · exact tNiT (nm 7) (EV.eq (EV.slT (nm 1) (PartV.some (nm 8)) PartV.none) (congrArg Tp (M.cutD_map _ _ _ _))) hfm (strs_flat _)
      · have hk' : (deed == "call" && !inD more ((M.cutL ns (some (if d == 1 then at_ + 1 else 0)) none).map .str)) = true := hk
        refine ST.ret EV.bl ⟨?_, by simp⟩
        have : cs.all (M.clauseStands ns at_) = false := by
          rw [List.all_eq_false]
          exact ⟨_, List.mem_iff_getElem?.mpr ⟨i, hc⟩, by rw [hcl, hk']; simp⟩
        rw [this]
        rfl
      · have hk' : (deed == "call" && !inD more ((M.cutL ns (some (if d == 1 then at_ + 1 else 0)) none).map .str)) = false := hk
        exact ST.nil (ST.nil ⟨⟨_, _, _, _, _, rfl⟩, rfl, by rw [step, hcl, hk']; rfl⟩)
    · obtain ⟨⟨a, b, c0, d0, g, rfl⟩, rfl, hp⟩ := hI
      rw [List.take_length] at hp
      rw [hp]
      exact ST.retP EV.bl rfl
theorem scAreRounds : FnScope ["value", "text"] ["value"] (defScope sAreRounds) := ⟨rfl, rfl, rfl, by decide +kernel, rfl, by decide +kernel, by decide +kernel⟩
noncomputable def cnAreRounds : Con := fn1 (fun d => nob d = true ∧ M.smallR d) fun d => .bool (M.areRounds d)
theorem cAreRounds (T : Gf mg) (C1 : Cal P w K mg base "read_round" 4 ["text"] cnReadRound) (D : Df K mg "are_rounds" sAreRounds) : Cal P w K mg base "are_rounds" 5 ["value"] cnAreRounds := by
  refine D.cal scAreRounds (fun _ _ _ _ _ _ us hl => len1 us hl fun _ => rfl) (by decide) (fun rs μ r μ' h => by obtain ⟨_, _, _, _, rfl⟩ := h; rfl) fun f cdv A outer s0 H E hr rs μ r μ' hC => ?_
  obtain ⟨d, rfl, ⟨hnb, hs⟩, rfl, rfl⟩ := hC
  have hob := nob_isObj hnb
  cases hd : isTupleL d with
  | false =>
    refine ST.ifYes (WV.tv (WV.orT (TV.not (TV.val (isI T.bt (nm 0) (kit_tuple d) (by decide +kernel) T.bt.tuple))) (by rw [hd]; rfl))) rfl (ST.retP EV.bl ?_)
    cases d <;> first | rfl | cases hd
  | true =>
    obtain ⟨ds, rfl⟩ : ∃ ds, d = .tuple ds := by cases d <;> first | exact ⟨_, rfl⟩ | cases hd
    refine ST.ifR (WV.tv (WV.orF (TV.not (TV.val (isI T.bt (nm 0) (kit_tuple _) (by decide +kernel) T.bt.tuple))) (WV.or1 (TV.not (tChainLe op_le op_le EV.int (bLenT T.bt (nm 0)) (gI T.mrounds)))))) (fun hk => ?_) (fun hk => ?_)
    · refine ST.retP EV.bl ?_
      have : M.areRounds (.tuple ds) = false := by
        simp only [Bool.not_eq_true'] at hk
        show ((decide (1 ≤ (ds.length : Int)) && decide ((ds.length : Int) ≤ 5)) && ds.all fun x => !isNone (M.readRound x)) = false
        rw [hk, Bool.false_and]
      exact congrArg (fun b => Bb b) this.symm
    · simp only [Bool.not_eq_false'] at hk
      have h5 : ds.length ≤ 5 := by
        rw [Bool.and_eq_true, decide_eq_true_eq, decide_eq_true_eq] at hk
        omega
      refine ST.retP (bAll (bs := ds.map fun x => !isNone (M.readRound x)) T.bt rfl (EV.eq (LCV.evf (own := [("text", 1)]) (LCV.map (fun x => .bool (!isNone (M.readRound x))) (IV.tup (nm 0)) (fun x hx => ?_) (by omega)) rfl scAreRounds.nd (blkOk_by (N := ["value", "text"]) (sc := defScope sAreRounds) (by decide +kernel))).ev ?_)) ?_
      · exact ⟨_, fun _ _ _ _ _ => GV.name (i := 1) scAreRounds.nd rfl (Or.inl rfl) (by simp), fun _ _ _ _ _ => cNotN (EV.call C1 hr (AV.cons (nm 1) AV.nil) ⟨x, rfl, ⟨nob_isObj (nob_tup hnb x hx), hs ds rfl x hx⟩, rfl, rfl⟩)⟩
      · rw [List.map_map]
        rfl
      · have : M.areRounds (.tuple ds) = (ds.map fun x => !isNone (M.readRound x)).all id := by
          show ((decide (1 ≤ (ds.length : Int)) && decide ((ds.length : Int) ≤ 5)) && ds.all fun x => !isNone (M.readRound x)) = _
          rw [hk, Bool.true_and, List.all_map]
          rfl
        exact congrArg (fun b => Bb b) this.symm
noncomputable abbrev nIP : List Str := ["value", "name", "goal", "base", "rounds"]
theorem scIsPlan : FnScope nIP ["value"] (defScope sIsPlan) := ⟨rfl, rfl, rfl, by decide +kernel, rfl, by decide +kernel, by decide +kernel⟩
noncomputable def cnIsPlan : Con := fn1 (fun d => nob d = true ∧ M.smallP d) fun d => .bool (M.isPlan d)
theorem cIsPlan (T : Gf mg) (C1 : Cal P w K mg base "is_integer" 1 ["value"] (fn1 (fun d => isObj d = false) fun d => .bool (M.isInteger d)))
    (C2 : Cal P w K mg base "is_name" 1 ["value"] (fn1 (fun d => isObj d = false ∧ ∀ s, d = .str s → s.length ≤ 1000000) fun d => .bool (M.isName d))) (C3 : Cal P w K mg base "is_goal" 1 ["value"] (fn1 (fun d => isObj d = false) fun d => .bool (M.isGoal d)))
    (C4 : Cal P w K mg base "are_rounds" 5 ["value"] cnAreRounds) (D : Df K mg "is_plan" sIsPlan) : Cal P w K mg base "is_plan" 6 ["value"] cnIsPlan := by
  refine D.cal scIsPlan (fun _ _ _ _ _ _ us hl => len1 us hl fun _ => rfl) (by decide) (fun rs μ r μ' h => by obtain ⟨_, _, _, _, rfl⟩ := h; rfl) fun f cdv A outer s0 H E hr rs μ r μ' hC => ?_
  obtain ⟨d, rfl, ⟨hnb, hs⟩, rfl, rfl⟩ := hC
  have hob := nob_isObj hnb
  have hr1 := hr.mono (show 1 ≤ 5 by decide)
  show ST _ _ _ _ _ _ (PostR (Bb (M.isPlan d)) _)
  by_cases h4 : ∃ n g b rr, d = .tuple [n, g, b, rr]
  · obtain ⟨n, g, b, rr, rfl⟩ := h4
    obtain ⟨sn, sr⟩ := hs n g b rr rfl
    have nbn := nob_tup hnb n (by simp)
    have nbg := nob_isObj (nob_tup hnb g (by simp))
    have nbb := nob_isObj (nob_tup hnb b (by simp))
    have nbr := nob_tup hnb rr (by simp)
    refine ST.ifNo (WV.tv (WV.orF (TV.not (TV.val (isI T.bt (nm 0) (kit_tuple _) (by decide +kernel) T.bt.tuple))) (WV.or1 (tNe (bLenT T.bt (nm 0)) EV.int)))) rfl ?_
    refine ST.asg (is := [1, 2, 3, 4]) (nm 0) (GV.tup (GsV.cons (GV.name (i := 1) scIsPlan.nd rfl (Or.inl rfl) (by simp)) (GsV.cons (GV.name (i := 2) scIsPlan.nd rfl (Or.inl rfl) (by simp)) (GsV.cons (GV.name (i := 3) scIsPlan.nd rfl (Or.inl rfl) (by simp)) (GsV.cons (GV.name (i := 4) scIsPlan.nd rfl (Or.inl rfl) (by simp)) GsV.nil))))) ?_
    have e0 : M.isPlan (.tuple [n, g, b, rr]) = (M.baseOk b && (M.isName n && (M.isGoal g && M.areRounds rr))) := rfl
    rw [e0]
    cases hb : M.isInteger b with
    | false =>
      have : M.baseOk b = false := by cases b <;> first | rfl | cases hb
      rw [this, Bool.false_and]
      exact ST.ifYes (WV.tv (WV.orT (TV.not (TV.val (EV.call C1 hr1 (AV.cons (nm 3) AV.nil) ⟨b, rfl, nbb, rfl, rfl⟩))) (by rw [hb]; rfl))) rfl (ST.retP EV.bl rfl)
    | true =>
      obtain ⟨i, rfl⟩ : ∃ i, b = .int i := by cases b <;> first | exact ⟨_, rfl⟩ | cases hb
      refine ST.ifR (WV.tv (WV.orF (TV.not (TV.val (EV.call C1 hr1 (AV.cons (nm 3) AV.nil) ⟨_, rfl, rfl, rfl, rfl⟩))) (WV.or1 (TV.not (tChainLe op_le op_le EV.int (nm 3) (gI T.mbase)))))) (fun hk => ?_) (fun hk => ?_)
      · have : M.baseOk (.int i) = false := by
          simp only [Bool.not_eq_true'] at hk
          exact hk
        rw [this, Bool.false_and]
        exact ST.retP EV.bl rfl
      · have : M.baseOk (.int i) = true := by
          simp only [Bool.not_eq_false'] at hk
          exact hk
        rw [this, Bool.true_and]
        exact ST.retP (EV.andD (EV.call C2 hr1 (AV.cons (nm 1) AV.nil) ⟨n, rfl, ⟨nob_isObj nbn, fun s h => Nat.le_trans (sn s h) (by decide)⟩, rfl, rfl⟩) fun _ => EV.andD (EV.call C3 hr1 (AV.cons (nm 2) AV.nil) ⟨g, rfl, nbg, rfl, rfl⟩) fun _ => EV.one (EV.call C4 hr (AV.cons (nm 4) AV.nil) ⟨rr, rfl, ⟨nbr, sr⟩, rfl, rfl⟩)) rfl
  · have : M.isPlan d = false := by
      unfold M.isPlan
      split
      · exact absurd ⟨_, _, _, _, rfl⟩ h4
      · rfl
    rw [this]
    cases hd : isTupleL d with
    | false =>
      exact ST.ifYes (WV.tv (WV.orT (TV.not (TV.val (isI T.bt (nm 0) (kit_tuple d) (by decide +kernel) T.bt.tuple))) (by rw [hd]; rfl))) rfl (ST.retP EV.bl rfl)
    | true =>
      obtain ⟨ds, rfl⟩ : ∃ ds, d = .tuple ds := by cases d <;> first | exact ⟨_, rfl⟩ | cases hd
      have hl : ds.length ≠ 4 := fun z => by
        match ds, z with
        | [a, b, c, e], _ => exact h4 ⟨_, _, _, _, rfl⟩
      exact ST.ifYes (WV.tv (WV.orF (TV.not (TV.val (isI T.bt (nm 0) (kit_tuple _) (by decide +kernel) T.bt.tuple))) (WV.or1 (tNe (bLenT T.bt (nm 0)) EV.int)))) (by simp [eqS]; omega) (ST.retP EV.bl rfl)
noncomputable abbrev nCP : List Str := ["plans", "names", "at", "plan", "text"]
theorem scCheckPlans : FnScope nCP ["plans"] (defScope sCheckPlans) := ⟨rfl, rfl, rfl, by decide +kernel, rfl, by decide +kernel, by decide +kernel⟩
noncomputable def cnCheckPlans : Con := fun rs μ r μ' => ∃ ps, rs = [Tp ps] ∧ M.Good ps ∧ r = Nn ∧ μ' = μ
theorem plan_name {p : PyData} (h : M.isPlan p = true) : ∃ rest, p = .tuple (.str (M.nameOf p) :: rest) := by
  obtain ⟨n, g, b, rs, rfl, _⟩ := M.plan_shape h
  exact ⟨_, rfl⟩
theorem inD_strs (n : Str) (ns : List Str) : inD (.str n) (ns.map .str) = decide (n ∈ ns) := by
  induction ns with
  | nil => simp [inD]
  | cons m ns ih =>
    have : inD (.str n) ((m :: ns).map .str) = ((m == n) || inD (.str n) (ns.map .str)) := rfl
    rw [this, ih]
    by_cases h : n = m
    · simp [h]
    · have h2 : ¬ m = n := fun z => h z.symm
      simp [h, h2]
theorem cCheckPlans (T : Gf mg) (C1 : Cal P w K mg base "is_plan" 6 ["value"] cnIsPlan) (C2 : Cal P w K mg base "can_stand" 5 ["text", "names", "at"] cnCanStand) (D : Df K mg "check_plans" sCheckPlans) : Cal P w K mg base "check_plans" 7 ["plans"] cnCheckPlans := by
  refine D.calN scCheckPlans (fun _ _ _ _ _ _ us hl => len1 us hl fun _ => rfl) (by decide) (fun rs μ r μ' h => by obtain ⟨_, _, _, _, rfl⟩ := h; rfl) fun f cdv A outer s0 H E hr rs μ r μ' hC => ?_
  obtain ⟨ps, rfl, G, rfl, rfl⟩ := hC
  have hlen : (((ps.length : Nat) : Int) == 0) = false := by
    have := G.ge1
    exact beq_eq_false_iff_ne.mpr (by omega)
  refine ST.ifNo (WV.tv (WV.orF (TV.not (TV.val (isI T.bt (nm 0) (kit_tuple _) (by decide +kernel) T.bt.tuple))) (WV.or1 (tEq (bLenT T.bt (nm 0)) EV.int)))) hlen ?_
  refine ST.cell (i := 1) (EVF.lst (ds := []) AV.nil) scCheckPlans.nd rfl (Or.inr rfl) ?_
  refine ST.for_ (is := [2, 3]) (IV.enumT (nm 0) T.bt.enumerate) (fun i ρ ν => (∃ a b c, ρ = [some (Tp ps), some (.ptr μ'.length), a, b, c]) ∧ ν = μ' ++ [((ps.take i).map M.nameOf).map .str]) ⟨⟨_, _, _, rfl⟩, by simp⟩ (fun i d ρ ν hd hI => ?_) (fun ρ ν hI => ?_)
  · obtain ⟨⟨a, b, c, rfl⟩, rfl⟩ := hI
    obtain ⟨p, hp, rfl⟩ := enD_get hd
    have hpm : p ∈ ps := List.mem_iff_getElem?.mpr ⟨i, hp⟩
    obtain ⟨h1, h2⟩ := G.each p hpm
    obtain ⟨rest, hpe⟩ := plan_name h1
    have hil : i < ps.length := (List.getElem?_eq_some_iff.mp hp).1
    have hi4 : ((((0 + i : Nat)) : Int) == 4) = false := by
      have := G.le4
      simp
      omega
    have hcell : (μ' ++ [((ps.take i).map M.nameOf).map PyData.str])[μ'.length]? = some (((ps.take i).map M.nameOf).map .str) := by simp
    have hat : ∀ q, p = .tuple (.str (M.nameOf p) :: q) → (.dat p : Ent) = Tp (.str (M.nameOf p) :: q) := fun q z => congrArg Ent.dat z
    have hnew : inD (.str (M.nameOf p)) (((ps.take i).map M.nameOf).map .str) = false := by
      rw [inD_strs]
      refine decide_eq_false fun z => ?_
      obtain ⟨q, hq, e⟩ := List.mem_map.mp z
      obtain ⟨j, hj, ej⟩ := List.mem_take_iff_getElem.mp hq
      have hnd := G.nd
      have := List.pairwise_iff_getElem.mp hnd j i (by simp; omega) (by simp; omega) (by omega)
      have e1 : ps[i] = p := by
        have := (List.getElem?_eq_some_iff.mp hp).2
        exact this
      apply this
      rw [List.getElem_map, List.getElem_map, e1, ej, e]
    refine ⟨_, GV.tup (GsV.cons (GV.name (i := 2) scCheckPlans.nd rfl (by first | exact Or.inl rfl | exact Or.inr rfl) (by simp)) (GsV.cons (GV.name (i := 3) scCheckPlans.nd rfl (by first | exact Or.inl rfl | exact Or.inr rfl) (by simp)) GsV.nil)), ?_⟩
    have ev0 : ∀ {X : Cx} {ρ : REnv} {μ : Sto} {e : Expr}, EV X e ρ μ (.dat p) μ → EV X e ρ μ (Tp (.str (M.nameOf p) :: rest)) μ := fun h => EV.eq h (hat rest hpe)
    refine ST.ifNo (WV.tv (WV.orF (tEq (nm 2) (gI T.mplans)) (WV.orF (TV.not (TV.val (EV.call C1 hr (AV.cons (nm 3) AV.nil) ⟨p, rfl, ⟨M.plan_nob h1, h2⟩, rfl, rfl⟩))) (WV.or1 (tInC (ixT (ev0 (nm 3)) EV.int (at_nat (i := 0) rfl)) (nm 1) hcell rfl (strs_flat _))) (by rw [h1]; rfl)) (by exact hi4))) hnew ?_
    refine ST.expr (EV.app (nm 1) (ixT (ev0 (nm 3)) EV.int (at_nat (i := 0) rfl)) hcell (by have := G.le4; simp; omega)) (ST.nil ⟨⟨_, _, _, rfl⟩, ?_⟩)
    rw [List.take_succ, hp]
    simp
  · obtain ⟨⟨a, b, c, rfl⟩, rfl⟩ := hI
    rw [enD_len, List.take_length]
    have hcell : (μ' ++ [(ps.map M.nameOf).map PyData.str])[μ'.length]? = some ((ps.map M.nameOf).map .str) := by simp
    refine ST.for_ (is := [2, 3]) (IV.enumT (nm 0) T.bt.enumerate) (fun i ρ ν => (∃ a b c, ρ = [some (Tp ps), some (.ptr μ'.length), a, b, c]) ∧ ν = μ' ++ [(ps.map M.nameOf).map .str]) ⟨⟨_, _, _, rfl⟩, rfl⟩ (fun i d ρ ν hd hI => ?_) (fun ρ ν hI => ?_)
    · obtain ⟨⟨a, b, c, rfl⟩, rfl⟩ := hI
      obtain ⟨p, hp, rfl⟩ := enD_get hd
      have hpm : p ∈ ps := List.mem_iff_getElem?.mpr ⟨i, hp⟩
      obtain ⟨h1, h2⟩ := G.each p hpm
      have hst := G.stand i p hp
      obtain ⟨n, g, bb, rs, rfl, _, _, _, _, hrs⟩ := M.plan_shape h1
      have hrl : rs.length ≤ 5 := by
        unfold M.areRounds at hrs
        rw [Bool.and_eq_true, Bool.and_eq_true, decide_eq_true_eq, decide_eq_true_eq] at hrs
        omega
      refine ⟨_, GV.tup (GsV.cons (GV.name (i := 2) scCheckPlans.nd rfl (by first | exact Or.inl rfl | exact Or.inr rfl) (by simp)) (GsV.cons (GV.name (i := 3) scCheckPlans.nd rfl (by first | exact Or.inl rfl | exact Or.inr rfl) (by simp)) GsV.nil)), ?_⟩
      refine ST.ifNo (TV.not (TV.val (bAll (bs := rs.map fun _ => true) T.bt rfl (EV.eq (LCV.evf (own := [("text", 4)]) (LCV.map (fun _ => .bool true) (IV.tup (ixT (nm 3) EV.int (at_nat (i := 3) rfl))) (fun t ht => ?_) (by omega)) rfl scCheckPlans.nd (blkOk_by (N := nCP) (sc := defScope sCheckPlans) (by decide +kernel))).ev ?_)))) ?_ (ST.nil ⟨⟨_, _, _, rfl⟩, rfl⟩)
      · refine ⟨_, fun _ _ _ _ _ => GV.name (i := 4) scCheckPlans.nd rfl (Or.inl rfl) (by simp), fun _ _ _ _ _ => ?_⟩
        have := hst t ht
        have e : ((0 + i : Nat) : Int) = (i : Int) := by omega
        exact EV.eq (EV.call C2 (hr.mono (by decide)) (AV.cons (nm 4) (AV.cons (nm 1) (AV.cons (nm 2) AV.nil))) ⟨t, _, ps.map M.nameOf, _, rfl, ⟨(by obtain ⟨s, rfl⟩ := M.rounds_str hrs t ht; rfl), (h2 _ _ _ _ rfl).2 rs rfl t ht, .inl ⟨_, rfl, hcell⟩⟩, rfl, rfl⟩) (by rw [e, this])
      · rw [List.map_map]
        rfl
      · rw [List.all_map]
        simp
    · obtain ⟨⟨a, b, c, rfl⟩, rfl⟩ := hI
      exact ST.nil ⟨rfl, _, rfl⟩
end
end J
namespace M
open PySem J L2
noncomputable def headText (n g : Str) (b : Int) : Str := catS Str.empty ["plan ", n, " ", g, " base ", strI b]
noncomputable def strOf : PyData → Str
  | .str s => s
  | _ => Str.empty
noncomputable def planText : PyData → Str
  | .tuple [.str n, .str g, .int b, .tuple rs] => Txt.join "\n" (headText n g b :: rs.map strOf)
  | _ => Str.empty
noncomputable def bookText (ps : List PyData) : Str := Txt.join "\n" (ps.map planText)
noncomputable def bookShown (ps : List PyData) : Str := catS Str.empty ["Book of ", strI ps.length, " plans"]
end M
namespace J
open PySem PySem.Spec
open PyProof.Rows L2
structure Kl (K : PySem.W.Frag) (C : Addr) : Prop where
  cl : Cls K C
  nK : NoAttr K C "kept"
noncomputable abbrev bookE (C : Addr) (ps : List PyData) : Ent := .obj C [("kept", .tuple ps)]
section
variable {w : World} {P : Program} {K : PySem.W.Frag} {base : Heap} {mg : Str → Option Value} {C : Addr}
theorem fit_of : ∀ (ss : List Str) (acc : Str), acc.length + (ss.map (·.length)).sum ≤ sizeLine → fitS acc ss
  | [], _, _ => trivial
  | s :: ss, acc, h => by
    rw [List.map_cons, List.sum_cons] at h
    have e : (acc ++ s).length = acc.length + s.length := strLen_append acc s
    exact ⟨by omega, fit_of ss (acc ++ s) (by omega)⟩
theorem cat_len : ∀ (ss : List Str) (acc : Str), (catS acc ss).length = acc.length + (ss.map (·.length)).sum
  | [], acc => by simp [catS]
  | s :: ss, acc => by
    rw [catS, cat_len ss, strLen_append, List.map_cons, List.sum_cons]
    omega
theorem strI_len (i : Int) (h0 : 0 ≤ i) (h9 : i ≤ 9) : (M.strI i).length = 1 := by
  have := (M.dig_text i.toNat (by omega)).2.2
  rwa [show ((i.toNat : Nat) : Int) = i by omega] at this
theorem goal_len {g : Str} (h : M.isGoal (.str g) = true) : g.length ≤ 6 := by
  have h2 : inD (.str g) ([.str "all", .str "before"] ++ M.lasts) = true := h
  have h3 : g = "all" ∨ g = "before" ∨ g = "last 1" ∨ g = "last 2" ∨ g = "last 3" ∨ g = "last 4" := by
    have e : ([PyData.str "all", .str "before"] ++ M.lasts) = (["all", "before", "last 1", "last 2", "last 3", "last 4"] : List Str).map .str := rfl
    rw [e, inD_strs] at h2
    simpa using h2
  rcases h3 with rfl | rfl | rfl | rfl | rfl | rfl <;> decide +kernel
theorem rounds_strs {rs : List PyData} (h : M.areRounds (.tuple rs) = true) : rs.length ≤ 5 ∧ ∀ x ∈ rs, ∃ s, x = .str s := by
  have h2 : ((decide (1 ≤ (rs.length : Int)) && decide ((rs.length : Int) ≤ 5)) && rs.all fun x => !isNone (M.readRound x)) = true := h
  rw [Bool.and_eq_true, Bool.and_eq_true, decide_eq_true_eq, decide_eq_true_eq, List.all_eq_true] at h2
  refine ⟨by omega, fun x hx => ?_⟩
  have := h2.2 x hx
  cases x <;> first | exact ⟨_, rfl⟩ | cases this
theorem strs_of {rs : List PyData} (h : ∀ x ∈ rs, ∃ s, x = .str s) : rs = (rs.map M.strOf).map .str := by
  rw [List.map_map]
  have : rs.map (PyData.str ∘ M.strOf) = rs.map id := List.map_congr_left fun x hx => by
    obtain ⟨s, rfl⟩ := h x hx
    rfl
  rw [this, List.map_id]
noncomputable abbrev nPT : List Str := ["plan", "name", "goal", "base", "rounds"]
theorem scPlanText : FnScope nPT ["plan"] (defScope sPlanText) := ⟨rfl, rfl, rfl, by decide +kernel, rfl, by decide +kernel, by decide +kernel⟩
noncomputable def cnPlanText : Con := fn1 (fun p => M.isPlan p = true ∧ M.smallP p) fun p => .str (M.planText p)
theorem sum_le {α : Type} (f : α → Nat) (m : Nat) : ∀ (l : List α), (∀ x ∈ l, f x ≤ m) → (l.map f).sum ≤ l.length * m
  | [], _ => by simp
  | x :: l, h => by
    have h1 := h x List.mem_cons_self
    have h2 := sum_le f m l fun y hy => h y (List.mem_cons_of_mem _ hy)
    rw [List.map_cons, List.sum_cons, List.length_cons, Nat.add_mul]
    omega
theorem head_len {n g : Str} {b : Int} (hn : M.nameOk n = true) (hg : M.isGoal (.str g) = true) (b1 : 1 ≤ b) (b4 : b ≤ 4) : (M.headText n g b).length ≤ 30 := by
  have h1 := (M.name_signs hn).2.1
  have h2 := goal_len hg
  have h3 := strI_len b (by omega) (by omega)
  unfold M.headText
  rw [cat_len]
  have e1 : ((("plan " : String) : Str)).length = 5 := by decide +kernel
  have e2 : (((" " : String) : Str)).length = 1 := by decide +kernel
  have e3 : (((" base " : String) : Str)).length = 6 := by decide +kernel
  have e4 : (Str.empty).length = 0 := by decide +kernel
  simp only [List.map_cons, List.map_nil, List.sum_cons, List.sum_nil]
  omega
theorem cPlanText (D : Df K mg "plan_text" sPlanText) : Cal P w K mg base "plan_text" 1 ["plan"] cnPlanText := by
  refine D.cal scPlanText (fun _ _ _ _ _ _ us hl => len1 us hl fun _ => rfl) (by decide) (fun rs μ r μ' h => by obtain ⟨_, _, _, _, rfl⟩ := h; rfl) fun f cdv A outer s0 H E hr rs μ r μ' hC => ?_
  obtain ⟨d, rfl, ⟨hp, hsm⟩, rfl, rfl⟩ := hC
  obtain ⟨n, g, b, rr, rfl, hn, hg, b1, b4, hrr⟩ := M.plan_shape hp
  obtain ⟨h5, hst⟩ := rounds_strs hrr
  have hl := head_len hn hg b1 b4
  refine ST.asg (is := [1, 2, 3, 4]) (nm 0) (GV.tup (GsV.cons (GV.name (i := 1) scPlanText.nd rfl (Or.inl rfl) (by simp)) (GsV.cons (GV.name (i := 2) scPlanText.nd rfl (Or.inl rfl) (by simp)) (GsV.cons (GV.name (i := 3) scPlanText.nd rfl (Or.inl rfl) (by simp)) (GsV.cons (GV.name (i := 4) scPlanText.nd rfl (Or.inl rfl) (by simp)) GsV.nil))))) ?_
  have hfit : fitS Str.empty ["plan ", n, " ", g, " base ", M.strI b] := by
    refine fit_of _ _ ?_
    have := cat_len ["plan ", n, " ", g, " base ", M.strI b] Str.empty
    rw [← this]
    exact sz (Nat.le_trans hl (by decide))
  have hn8 := (M.name_signs hn).2.1
  have hg6 := goal_len hg
  have ers := strs_of hst
  have hsum : ((M.headText n g b :: rr.map M.strOf).map (·.length)).sum + (M.headText n g b :: rr.map M.strOf).length * ((("\n" : String) : Str)).length ≤ 16777216 := by
    have h1 : ((rr.map M.strOf).map (·.length)).sum ≤ (rr.map M.strOf).length * 99990 := sum_le _ _ _ fun x hx => by
      obtain ⟨y, hy, rfl⟩ := List.mem_map.mp hx
      obtain ⟨s, rfl⟩ := hst y hy
      exact (hsm _ _ _ _ rfl).2 rr rfl _ hy s rfl
    have e1 : ((("\n" : String) : Str)).length = 1 := by decide +kernel
    rw [List.map_cons, List.sum_cons, e1, List.length_cons]
    rw [List.length_map] at h1 ⊢
    have : rr.length * 99990 ≤ 5 * 99990 := Nat.mul_le_mul_right _ h5
    omega
  refine ST.retP (EV.join (ys := M.headText n g b :: rr.map M.strOf) EV.str (EV.eq (EV.lst (ds := .str (M.headText n g b) :: rr) (AV.cons (EV.joined (JV.cons EV.str (JV.cons (EV.fmtS (nm 1) (sz (by omega))) (JV.cons EV.str (JV.cons (EV.fmtS (nm 2) (sz (by omega))) (JV.cons EV.str (JV.cons (EV.fmtI (nm 3) (log_small (by omega))) JV.nil)))))) hfit) (by
      have : dats (.str (M.headText n g b) :: rr) = .dat (.str (M.headText n g b)) :: (dats rr ++ []) := by rw [List.append_nil]; rfl
      exact (List.append_nil (dats rr)) ▸ AV.star (nm 4) AV.nil)) (by simp; omega)) (by rw [List.map_cons, ← ers])) hsum) rfl
theorem scInit : FnScope ["self", "plans"] ["self", "plans"] (defScope sInit) := ⟨rfl, rfl, rfl, by decide +kernel, rfl, by decide +kernel, by decide +kernel⟩
theorem okInit {f : Addr} {fd : FuncData} (F : Fun K "__init__" "Book.__init__" sInit f fd) (B : Kl K C) (C1 : Cal P w K mg base "check_plans" 7 ["plans"] cnCheckPlans) : FnOk P w K mg base CX0 8 f fd ["self", "plans"] (spInit K C "kept" M.Good) := by
  refine F.ok scInit (fun vs H Q E h => ?_) (fun cdv A outer s H vs Q E hr h => ?_)
  · obtain ⟨x, dx, v, w, μ, ps, rfl, _⟩ := h
    rfl
  · obtain ⟨x, dx, v, w0, μ, ps, rfl, hx, hxa, m, hv, G, k⟩ := h
    refine ⟨_, pss_cons (ps_expr p_ex) (pss_one (ps_fld (pv 0) (pv 1) rfl)), ?_⟩
    have sl : Sl K H w0 (L2.start ["self", "plans"] [.ref x, v]) [none, some (Tp ps)] := by
      refine ⟨rfl, fun i r hi => ?_⟩
      match i, hi with
      | 0, hi => simp at hi
      | 1, hi =>
        simp at hi
        subst hi
        exact ⟨v, rfl, hv⟩
      | i + 2, hi => simp at hi
    refine use_ev (ρ := [none, some (Tp ps)]) (r := Nn) (μ' := μ) (EV.call C1 hr (AV.cons (nm 1) AV.nil) ⟨ps, rfl, G, rfl, rfl⟩) m sl fun u H1 m1 f1 _ => ?_
    have hx1 : H1 x = some (.ins C dx []) := f1 x _ hx (m.out x hxa) (fun q z => by cases z)
    refine ⟨v, rfl, _, rfl, x, C, dx, [], rfl, hx1, B.cl, B.nK, by decide, ?_⟩
    exact k H1 m1 f1 (hv.fr f1)
theorem scNames : FnScope ["self", "plan"] ["self"] (defScope sNames) := ⟨rfl, rfl, rfl, by decide +kernel, rfl, by decide +kernel, by decide +kernel⟩
noncomputable def cnNames (C : Addr) : Con := fun rs μ r μ' => ∃ ps, rs = [bookE C ps] ∧ M.Good ps ∧ r = Tp ((ps.map M.nameOf).map .str) ∧ μ' = μ
theorem okNames {f : Addr} {fd : FuncData} (T : Bt mg) (F : Fun K "names" "Book.names" sNames f fd) (B : Kl K C) : FnOk P w K mg base CX0 1 f fd ["self"] (SpV K ["self"] (cnNames C)) := by
  refine fn_mk F scNames (by decide) (fun rs μ r μ' h => by obtain ⟨_, rfl, _, _, rfl⟩ := h; exact ⟨rfl, rfl⟩) fun cdv A outer s H E hr rs μ r μ' hC => ?_
  obtain ⟨ps, rfl, G, rfl, rfl⟩ := hC
  refine ST.retP (bTupL T (EV.eq (LCV.evf (own := [("plan", 1)]) (LCV.map (fun p => .str (M.nameOf p)) (IV.tup (EV.fld (nm 0) B.cl B.nK rfl)) (fun p hp => ?_) (by have := G.le4; omega)) rfl scNames.nd (blkOk_by (N := ["self", "plan"]) (sc := defScope sNames) (by decide +kernel))).ev (congrArg Ls (by rw [List.map_map]; rfl)))) rfl
  obtain ⟨q, hq⟩ := plan_name (G.each p hp).1
  exact ⟨_, fun _ _ _ _ _ => GV.name (i := 1) scNames.nd rfl (Or.inl rfl) (by simp), fun _ _ _ _ _ => ixT (EV.eq (nm 1) (congrArg Ent.dat hq)) EV.int (at_nat (i := 0) rfl)⟩
noncomputable def spNamesF (K : PySem.W.Frag) (C : Addr) : Sp := fun vs H Q _ => ∃ w μ ps v, vs = [v] ∧ Mem K H w μ ∧ Val K H w v (bookE C ps) ∧ M.Good ps ∧
  ∀ l o H1, Mem K H1 w μ → Fr w.α H H1 → H1 l = none → o.cls = .type "tuple" → o.dict = none → Q (.ref l) (upd H1 l (.frz o (.tup ((ps.map M.nameOf).map .str))))
theorem okNamesF {f : Addr} {fd : FuncData} (T : Bt mg) (F : Fun K "names" "Book.names" sNames f fd) (B : Kl K C) : FnOk P w K mg base CX0 1 f fd ["self"] (spNamesF K C) := by
  refine F.ok scNames (fun vs H Q E h => ?_) (fun cdv A outer s H vs Q E hr h => ?_)
  · obtain ⟨w, μ, ps, v, rfl, _⟩ := h
    rfl
  · obtain ⟨w0, μ, ps, v, rfl, m, hv, G, k⟩ := h
    have sl : Sl K H w0 (L2.start ["self", "plan"] [v]) [some (bookE C ps), none] := sl_start (N := ["self", "plan"]) (rs := [bookE C ps]) (.cons hv .nil) (Nat.le_of_ble_eq_true rfl)
    refine ⟨_, pss_one (ps_ret (pe_callTy call_tupleF rfl T.tuple (by decide +kernel) (pa_cons p_ex pa_nil))), ?_⟩
    refine use_evf (ρ := [some (bookE C ps), none]) (xs := ps.map fun p => .str (M.nameOf p)) (μ' := μ) (LCV.evf (own := [("plan", 1)]) (LCV.map (fun p => .str (M.nameOf p)) (IV.tup (EV.fld (nm 0) B.cl B.nK rfl)) (fun p hp => ?_) (by have := G.le4; omega)) rfl scNames.nd (blkOk_by (N := ["self", "plan"]) (sc := defScope sNames) (by decide +kernel))) m sl fun p H1 us m1 f1 hp e1 hd => ?_
    · obtain ⟨q, hq⟩ := plan_name (G.each p hp).1
      exact ⟨_, fun _ _ _ _ _ => GV.name (i := 1) scNames.nd rfl (Or.inl rfl) (by simp), fun _ _ _ _ _ => ixT (EV.eq (nm 1) (congrArg Ent.dat hq)) EV.int (at_nat (i := 0) rfl)⟩
    have eus : us = ((ps.map M.nameOf).map V.str) := by
      have : DqAll (dl H1 (wk' w0 p).all) us ((ps.map M.nameOf).map .str) := by rwa [List.map_map]
      exact dqAll_strs' this
    subst eus
    exact ⟨p, _, rfl, SqL.of e1, fun l o hl hc hd => k l o H1 m1.unkeep f1 hl hc hd⟩
structure NmF (P : Program) (w : World) (K : PySem.W.Frag) (mg : Str → Option Value) (base : Heap) (C : Addr) : Prop where
  ex : ∃ p f fd, FnOk P w K mg base CX0 1 f fd ["self"] (spNamesF K C) ∧ PropOf K C "names" p f ∧ Binds K fd ["self"] []
theorem EV.nidx {X : Cx} {ρ : REnv} {μ : Sto} {o e : Expr} {ps : List PyData} {n : Str} {j : Nat} {p1 apos cpos : Pos} (hN : NmF X.prog X.w X.K X.mg X.base C) (B : Kl X.K C) (hr : Room 2 X.A) (ho : EV X o ρ μ (bookE C ps) μ) (he : EV X e ρ μ (Ss n) μ) (G : M.Good ps) (hj : (ps.map M.nameOf)[j]? = some n)
    (hb1 : attributeBase o "names" X.env (eval o X.env) = eval o X.env := by rfl) (hbase : attributeBase (.Attribute o "names" p1) "index" X.env (eval (.Attribute o "names" p1) X.env) = eval (.Attribute o "names" p1) X.env := by rfl)
    (hfew : ((backTo cpos (starEach [e] X.env)).all (fun x => !x.1) && (backToKw cpos (keywordEach [] X.env)).all (fun x => x.1.isSome) && decide ([e].length + ([] : List Keyword).length + (if ([] : List Keyword).isEmpty then 0 else 1) < 30)) = true := by rfl)
    (hline : (apos.endLine == cpos.line) = true := by rfl) (hs : starEach [e] X.env = (false, eval e X.env) :: starEach [] X.env := by rfl) (hp : (backTo cpos (starEach [] X.env)).any (·.1) = false := by rfl) : EV X (.Call (.Attribute (.Attribute o "names" p1) "index" apos) [e] [] cpos) ρ μ (Ii (j : Int)) μ := by
  intro w σ H m s Q q
  obtain ⟨pp, g, fd, F, po, bi⟩ := hN.ex
  refine ⟨_, pe_tix PySem.F.slot_tuple_index PySem.F.type_tuple_index mt_tup_index (pe_prop (E := E0) (p_ex (e := o)) B.cl po F hr bi .nil pass0 hb1) (p_ex (e := e)) hbase hfew hline hs hp, ?_⟩
  refine ho w σ H m s _ fun v H1 m1 f1 h1 => ?_
  have h1' := h1
  obtain ⟨x, dx, ws, rfl, hx, hn, hd⟩ := h1
  refine ⟨x, dx, ws, rfl, (dl_some hx).2, w, μ, ps, .ref x, rfl, m1, h1', G, fun l ob H2 m2 f2 hl hc hdd => ?_⟩
  have hS : Same H2 (upd H2 l (.frz ob (.tup ((ps.map M.nameOf).map .str)))) := Same.new hl
  refine ⟨⟨l, ob, _, rfl, upd_same, hc, hdd⟩, ?_⟩
  refine he w σ _ (m2.same hS) ((s.fr (f1.trans f2)).fr (Fr.of_same hS)) _ fun u H3 m3 f3 h3 => ?_
  cases h3
  have hla : l ∉ w.α := m2.fresh hl
  refine ⟨l, ps.map M.nameOf, n, j, rfl, rfl, .inl (.inr ⟨ob, f3 l _ upd_same hla (fun q z => by cases z)⟩), hj, fun k hk z => ?_, q _ H3 m3 (((f1.trans f2).trans (Fr.of_same hS)).trans f3) (Dq.int _)⟩
  obtain ⟨hk1, e1⟩ := List.getElem?_eq_some_iff.mp z
  obtain ⟨hj1, e2⟩ := List.getElem?_eq_some_iff.mp hj
  exact List.pairwise_iff_getElem.mp G.nd k j hk1 hj1 hk (by rw [e1, e2])
theorem scFindPlan : FnScope ["self", "name"] ["self", "name"] (defScope sFindPlan) := ⟨rfl, rfl, rfl, by decide +kernel, rfl, by decide +kernel, by decide +kernel⟩
theorem scPlan : FnScope ["self", "name"] ["self", "name"] (defScope sPlan) := ⟨rfl, rfl, rfl, by decide +kernel, rfl, by decide +kernel, by decide +kernel⟩
theorem scRepr : FnScope ["self"] ["self"] (defScope sRepr) := ⟨rfl, rfl, rfl, by decide +kernel, rfl, by decide +kernel, by decide +kernel⟩
noncomputable def cnRepr (C : Addr) : Con := fun rs μ r μ' => ∃ ps, rs = [bookE C ps] ∧ M.Good ps ∧ r = Ss (M.bookShown ps) ∧ μ' = μ
theorem okRepr {f : Addr} {fd : FuncData} (T : Bt mg) (F : Fun K "__repr__" "Book.__repr__" sRepr f fd) (B : Kl K C) : FnOk P w K mg base CX0 1 f fd ["self"] (SpV K ["self"] (cnRepr C)) := by
  refine fn_mk F scRepr (by decide) (fun rs μ r μ' h => by obtain ⟨_, rfl, _, _, rfl⟩ := h; exact ⟨rfl, rfl⟩) fun cdv A outer s H E hr rs μ r μ' hC => ?_
  obtain ⟨ps, rfl, G, rfl, rfl⟩ := hC
  have h4 := G.le4
  refine ST.retP (EV.joined (JV.cons EV.str (JV.cons (EV.fmtI (bLenT T (EV.fld (nm 0) B.cl B.nK rfl)) (log_small (by omega))) (JV.cons EV.str JV.nil))) (fit_of _ _ ?_)) rfl
  have e1 : ((("Book of " : String) : Str)).length = 8 := by decide +kernel
  have e2 : (((" plans" : String) : Str)).length = 6 := by decide +kernel
  have e3 : (Str.empty).length = 0 := by decide +kernel
  have e4 := strI_len (ps.length : Int) (by omega) (by omega)
  have e4' : ((toString (ps.length : Int) : String) : Str).length = 1 := e4
  simp only [List.map_cons, List.map_nil, List.sum_cons, List.sum_nil, e1, e2, e3, e4']
  decide
theorem join_le (sep : Str) : ∀ ys : List Str, (Txt.join sep ys).length ≤ (ys.map (·.length)).sum + ys.length * sep.length := by
  intro ys
  rw [TL.join_eq]
  induction ys with
  | nil => exact Nat.zero_le _
  | cons x r ih =>
    cases r with
    | nil =>
      show x.length ≤ _
      simp
    | cons z r =>
      show (x ++ sep ++ Str.join sep (z :: r)).length ≤ _
      rw [strLen_append, strLen_append, List.map_cons, List.sum_cons, List.length_cons, Nat.add_mul]
      omega
theorem plan_len {p : PyData} (h : M.isPlan p = true) (hs : M.smallP p) : (M.planText p).length ≤ 600000 := by
  obtain ⟨n, g, b, rr, rfl, hn, hg, b1, b4, hrr⟩ := M.plan_shape h
  obtain ⟨h5, hst⟩ := rounds_strs hrr
  have hl := head_len hn hg b1 b4
  have h1 : ((rr.map M.strOf).map (·.length)).sum ≤ (rr.map M.strOf).length * 99990 := sum_le _ _ _ fun x hx => by
    obtain ⟨y, hy, rfl⟩ := List.mem_map.mp hx
    obtain ⟨s, rfl⟩ := hst y hy
    exact (hs _ _ _ _ rfl).2 rr rfl _ hy s rfl
  have e1 : ((("\n" : String) : Str)).length = 1 := by decide +kernel
  have h2 := join_le "\n" (M.headText n g b :: rr.map M.strOf)
  rw [List.map_cons, List.sum_cons, e1, List.length_cons] at h2
  rw [List.length_map] at h1 h2
  have : rr.length * 99990 ≤ 5 * 99990 := Nat.mul_le_mul_right _ h5
  show (Txt.join _ _).length ≤ _
  omega
theorem scStr : FnScope ["self", "plan"] ["self"] (defScope sStr) := ⟨rfl, rfl, rfl, by decide +kernel, rfl, by decide +kernel, by decide +kernel⟩
noncomputable def cnStr (C : Addr) : Con := fun rs μ r μ' => ∃ ps, rs = [bookE C ps] ∧ M.Good ps ∧ r = Ss (M.bookText ps) ∧ μ' = μ
theorem okStr {f : Addr} {fd : FuncData} (F : Fun K "__str__" "Book.__str__" sStr f fd) (B : Kl K C) (C1 : Cal P w K mg base "plan_text" 1 ["plan"] cnPlanText) : FnOk P w K mg base CX0 2 f fd ["self"] (SpV K ["self"] (cnStr C)) := by
  refine fn_mk F scStr (by decide) (fun rs μ r μ' h => by obtain ⟨_, rfl, _, _, rfl⟩ := h; exact ⟨rfl, rfl⟩) fun cdv A outer s H E hr rs μ r μ' hC => ?_
  obtain ⟨ps, rfl, G, rfl, rfl⟩ := hC
  have h4 := G.le4
  have e1 : ((("\n" : String) : Str)).length = 1 := by decide +kernel
  refine ST.retP (EV.join (ys := ps.map M.planText) EV.str (EV.eq (LCV.evf (own := [("plan", 1)]) (LCV.map (fun p => .str (M.planText p)) (IV.tup (EV.fld (nm 0) B.cl B.nK rfl)) (fun p hp => ?_) (by omega)) rfl scStr.nd (blkOk_by (N := ["self", "plan"]) (sc := defScope sStr) (by decide +kernel))).ev (congrArg Ls (by rw [List.map_map]; rfl))) ?_) rfl
  · exact ⟨_, fun _ _ _ _ _ => GV.name (i := 1) scStr.nd rfl (Or.inl rfl) (by simp), fun _ _ _ _ _ => EV.call C1 hr (AV.cons (nm 1) AV.nil) ⟨p, rfl, G.each p hp, rfl, rfl⟩⟩
  · have h1 : ((ps.map M.planText).map (·.length)).sum ≤ (ps.map M.planText).length * 600000 := sum_le _ _ _ fun x hx => by
      obtain ⟨p, hp, rfl⟩ := List.mem_map.mp hx
      exact plan_len (G.each p hp).1 (G.each p hp).2
    rw [e1]
    rw [List.length_map] at h1 ⊢
    have : ps.length * 600000 ≤ 4 * 600000 := Nat.mul_le_mul_right _ h4
    omega
end
end J
namespace J
open PySem PySem.Spec
open PyProof.Rows L2
noncomputable def tMethS (C : Addr) (m : Str) (sp : Sp) (E : L2.St → XK) (ta : TE) (t : TA) : TE := fun σ H Q => ta σ H fun x H1 => ∃ a dx fs, x = .ref a ∧ H1 a = some (.ins C dx fs) ∧ fs.lookup m = none ∧ t σ H1 fun vs H2 => sp (x :: vs) H2 Q (E σ)
section
variable {X : Cx} {CX1 : CXT} {k : Nat} {f C : Addr} {fd : FuncData} {ps : List Str} {sp : Sp} {E : L2.St → XK} {m : Str} {pos apos : Pos} {e o : Expr} {es : List Expr} {ta : TE} {t : TA}
theorem pe_methS {pl : Sem Bool} (he : PE X o ta) (c : Cls X.K C) (hm : Meth X.K C m f) (F : FnOk X.prog X.w X.K X.mg X.base CX1 k f fd ps sp) (hr : Room k X.A) (hb : Binds X.K fd ps []) (hx : ∀ σ, PassesAt CX1 X σ (E σ)) (ha : PA X (e :: es) t)
    (hst : starEach (e :: es) X.env = (false, eval e X.env) :: starEach es X.env := by rfl) (hpl : (backTo pos (starEach es X.env)).any (·.1) = false := by rfl)
    (ht : eval (.Call (.Attribute o m apos) (e :: es) [] pos) X.env = (do
      let ov ← eval o X.env
      standAt apos.atName
      let (f, first) ← holding [ov] (getMethod ov m pl)
      callWith pos f first (backTo pos (starEach (e :: es) X.env)) (backToKw pos (keywordEach [] X.env))) := by rfl) :
    PE X (.Call (.Attribute o m apos) (e :: es) [] pos) (tMethS C m sp E ta t) := by
  refine ⟨fun pins s σ H Q I h => ?_⟩
  refine PySem.W.methodCall_KW (pl := pl) (thn (he.run pins s σ H _ I h) fun u s1 ⟨x, H1, I1, rx, a, dx, fs, ex, ea, l, q⟩ => ?_) ht
  subst ex
  obtain rfl : u = Value.ref a := rx
  refine getmeth_ok I1 ea c hm l ?_
  refine PySem.W.callWith_K (first := [.ref a]) (h₀ := X.base) I.ok.mod.kin hm.kp (thn (ha.run pos pins s1 σ H1 _ I1 q) fun us s2 ⟨vs, H2, I2, r, q2⟩ => ⟨I2.kIn, ?_⟩) hst hpl
  exact run_fnS (us := .ref a :: us) (vs := .ref a :: vs) F hr hb (hx σ) I2 (.cons rfl r) q2
end
structure MthX (P : Program) (w : World) (K : PySem.W.Frag) (mg : Str → Option Value) (base : Heap) (C : Addr) (m : Str) (k : Nat) (ps : List Str) (c : ConX) : Prop where
  ex : ∃ f fd, FnOk P w K mg base (L2N.CX P w) k f fd ps (SpX K ps c) ∧ Meth K C m f ∧ Binds K fd ps []
section
variable {X : Cx} {W : WX} {ρ : REnv} {μ μ1 μ2 : Sto} {o e : Expr} {es : List Expr} {C : Addr} {fs : List (Str × PyData)} {m : Str} {k : Nat} {ps : List Str} {cn : ConX} {rs : List Ent} {oo : Res} {pos apos : Pos}
theorem EVR.meth {pl : Sem Bool} (ho : EV X o ρ μ (.obj C fs) μ1) (cl : Cls X.K C) (hm : MthX X.prog X.w X.K X.mg X.base C m k ps cn) (tk : L2N.Takes X W) (hr : Room k X.A) (hl : fs.lookup m = none) (ha : AV X (e :: es) ρ μ1 rs μ2) (hC : cn (.obj C fs :: rs) μ2 oo) (hps : rs.length + 1 = ps.length := by rfl)
    (hst : starEach (e :: es) X.env = (false, eval e X.env) :: starEach es X.env := by rfl) (hpl : (backTo pos (starEach es X.env)).any (·.1) = false := by rfl)
    (ht : eval (.Call (.Attribute o m apos) (e :: es) [] pos) X.env = (do
      let ov ← eval o X.env
      standAt apos.atName
      let (f, first) ← holding [ov] (getMethod ov m pl)
      callWith pos f first (backTo pos (starEach (e :: es) X.env)) (backToKw pos (keywordEach [] X.env))) := by rfl) : EVR X W (.Call (.Attribute o m apos) (e :: es) [] pos) ρ μ oo := by
  intro w σ H m0 s Q q
  obtain ⟨g, fd, F, me, bi⟩ := hm.ex
  refine ⟨_, pe_methS (E := WE W) (pl := pl) (p_ex (e := o)) cl me F hr bi (fun σ => L2N.passAt tk σ) (p_ax (e := e :: es)) hst hpl ht, ?_⟩
  refine ho w σ H m0 s _ fun v H1 m1 f1 h1 => ?_
  have h1' := h1
  obtain ⟨x, dx, ws, rfl, hx, hn, hd⟩ := h1
  refine ⟨x, dx, ws, rfl, (dl_some hx).2, lk_none hn hl, ?_⟩
  refine ha w σ H1 m1 (s.fr f1) _ fun vs H2 m2 f2 h2 => ?_
  refine ⟨w, μ2, .obj C fs :: rs, oo, m2, Vas.cons (r := .obj C fs) (h1'.fr f2) h2, (show (Ent.obj C fs :: rs).length = ps.length from hps), hC, ?_⟩
  cases oo with
  | ok r μ3 => exact fun v H3 m3 f3 h3 => q v H3 m3 ((f1.trans f2).trans f3) h3
  | rse C fs μ3 => exact fun od H3 m3 f3 h3 => q od H3 m3 ((f1.trans f2).trans f3) h3
end
end J
namespace J
open PySem PySem.Spec
open PyProof.Rows L2
end J
namespace J
open PySem PySem.Spec
open PyProof.Rows L2
structure FnW (P : Program) (w : World) (K : PySem.W.Frag) (mg : Str → Option Value) (base : Heap) (k : Nat) (f : Addr) (fd : FuncData) (sp : Sp) : Prop where
  go : ∀ (B : Around) (st : List Env) (t : Shared) (G : Hp) (R : VK) (p : Addr × Obj) (x : Addr), L2H.RoomH k B → L2H.PinOk st G t p → Env0 P w K mg base B st t G → BindsTo t fd ⟨[.ref x], []⟩ ([("self" : Str)].zip [Value.ref x]) → sp [.ref x] G R E0 → codeAny (model P w) B (.call (.ref f) ⟨[.ref x], []⟩) (CR CX0 st P w G t R E0) t
section
variable {w : World} {P : Program} {K : PySem.W.Frag} {base : Heap} {mg : Str → Option Value}
theorem fn_mkW {nm qual : Str} {st : Stmt} {f : Addr} {fd : FuncData} {N : List Str} {k : Nat} {C : Con} (F : Fun K nm qual st f fd) (Sc : FnScope N ["self"] (defScope st)) (hN : 1 ≤ N.length) (hlen : ∀ rs μ r μ', C rs μ r μ' → rs.length = 1 ∧ μ'.length = μ.length)
    (body : ∀ (cdv : Value) (A : Around) (o : List Env) (s : Shared) (H : Hp) (p : Addr × Obj), L2H.RoomH k (A.deeper (envOfC qual (defScope st) s.heap.objs.size f cdv)) → ∀ rs μ r μ', C rs μ r μ' →
      ST (L2H.cxH CX0 P w K mg base N qual (defScope st) f cdv A o s H E0 p).nox W0 μ.length (defBody st) (rs.map some ++ List.replicate (N.length - rs.length) none) μ (PostR r μ')) : FnW P w K mg base (k + 1) f fd (SpV K ["self"] C) := by
  obtain ⟨oc, od, kV, doc, pm, an, cdv, ct, osl, rfl, lk, hcd⟩ := F.ex
  refine ⟨fun B st' t G R p x room hpin e0 bind hsp => ?_⟩
  have inK : K.In t.heap := e0.mod.kin.keeps fun a o z => (e0.bs a o z).1
  have noL : t.heap.NoLimit := e0.mod.nolimit.keeps fun a o z => (e0.bs a o z).1
  refine codeAny_call_function room.depth (inK _ _ lk) rfl Sc.co Sc.gen rfl (PySem.W.codeRec_of inK hcd) (bind _ _ _ _ ?_)
  refine wpAny_newFunctionEnv_cells Sc.kind (fun ⟨n, v⟩ hy => ?_) fun env he t1 y => ?_
  · rcases Sc.par n (List.of_mem_zip hy).1 with z | z
    · exact Or.inl z
    · exact Or.inr ⟨z, PySem.W.cellsFrom_some _ _ _ (Or.inl z)⟩
  subst he
  refine ⟨noL.keeps y.toInCall.keep, codeAny_func ?_⟩
  obtain ⟨w0, μ, rs, r, μ', m, hv, hl, hC, q⟩ := hsp
  obtain ⟨T, hT, hr⟩ : ∃ T, PSs (L2H.cxH CX0 P w K mg base N qual (defScope st) f cdv B st' t G E0 p).nox (defBody st) T ∧ T { nx := fun _ G' => R .non G', rt := R } (L2.start N [.ref x]) G := by
    refine body cdv B st' t G p (room.deeper _) rs μ r μ' hC w0 _ G _ (Nat.le_of_eq m.len.symm) m (sl_start hv (by rw [(hlen _ _ _ _ hC).1]; exact hN)) fun o ho => ?_
    have hw : w0.cut μ.length = w0 := by
      show (⟨w0.α.take μ.length, w0.ξ⟩ : Wd) = w0
      rw [← m.len, List.take_length]
    cases o with
    | ret r2 μ2 =>
      obtain ⟨rfl, rfl⟩ := ho
      intro v H' m' f' hv'
      rw [hw] at m' hv'
      exact q v H' m' f' hv'
    | nx ρ2 μ2 => exact False.elim ho
    | brk ρ2 μ2 => exact False.elim ho
    | ct ρ2 μ2 => exact False.elim ho
    | rse ρ2 μ2 C fs => exact False.elim ho
  have I : Inv (L2H.cxH CX0 P w K mg base N qual (defScope st) f cdv B st' t G E0 p) [] (L2.start N [.ref x]) G t1 := L2H.inv_startH Sc hpin e0 rfl (.cons rfl .nil) y
  have done : ∀ {σ' : L2.St} {G' : Hp} {v : V} {u : Value} {t' : Shared}, Inv (L2H.cxH CX0 P w K mg base N qual (defScope st) f cdv B st' t G E0 p) [] σ' G' t' → RelV v u → R v G' → CE st' P w G t R u t' := fun {σ' G' v u t'} J0 rv hq => ⟨v, G', J0.os, J0.bare, J0.base, J0.hok, rv, hq⟩
  refine wpAny_mono (hT.nox.run [] t1 (L2.start N [.ref x]) G _ I hr) (fun fl t' hs => ?_) fun e t' hs => hs
  match fl, hs with
  | .ret u, hs =>
    obtain ⟨v, σ', G', J0, rv, hq⟩ := hs
    exact done J0 rv hq
  | .next, hs =>
    obtain ⟨σ', G', J0, hq⟩ := hs
    exact done (v := V.non) (u := Value.none) J0 rfl hq
  | .brk, hs =>
    obtain ⟨_, _, _, hq⟩ := hs
    exact hq.elim
  | .cont, hs =>
    obtain ⟨_, _, _, hq⟩ := hs
    exact hq.elim
structure OwnW (P : Program) (w : World) (K : PySem.W.Frag) (mg : Str → Option Value) (base : Heap) (C : Addr) (m : Str) (k : Nat) (cn : Con) : Prop where
  ex : ∃ f fd, FnW P w K mg base k f fd (SpV K ["self"] cn) ∧ PySem.W.findIn K (.ref C) m = some (some (.ref f)) ∧ PySem.W.isFn K (.ref f) = true ∧ Binds K fd ["self"] []
end
section
variable {X : Cx} {ρ : REnv} {μ μ1 μ2 : Sto} {o : Expr} {C : Addr} {fs : List (Str × PyData)} {k : Nat} {cn : Con} {t : Str} {p pos : Pos}
theorem own_runW {A : Around} {pins : List (Addr × Obj)} {σ : L2.St} {H : Hp} {s : Shared} {g x : Addr} {q : Addr × Obj} {fd : FuncData} {sp : Sp} {Q : VK} {R : Value → Shared → Prop} {E' : Value → Shared → Prop} (F : FnW X.prog X.w X.K X.mg X.base k g fd sp) (hr : L2H.RoomH k A) (hq : q ∈ X.pn) (hf : A.frames = some X.stack) (bi : Binds X.K fd ["self"] []) (I : Inv X pins σ H s)
    (h : sp [.ref x] H Q E0) (hR : ∀ u s', EP X pins σ Q u s' → R u s') : wpAny (model X.prog X.w) A (call (.ref g) [.ref x]) R E' s := by
  have e0 := I.env0
  have e1 : Env0 X.prog X.w X.K X.mg X.base A X.stack s H := ⟨hf, e0.mod, e0.bs, e0.bsz, e0.funs, e0.frf, e0.hok, e0.bare⟩
  have P1 := I.pin q (List.mem_append_left _ hq)
  have hpin : L2H.PinOk X.stack H s q := ⟨P1.1, P1.2.1, fun hm => (List.mem_cons.mp (I.stkSub q.1 hm)).elim P1.2.2.1 P1.2.2.2.1, P1.2.2.2.2⟩
  refine wpAny_call (codeAny_mono (F.go A X.stack s H Q q x hr hpin e1 (bi s [.ref x] I.kIn rfl) h) fun rr s' hq => ?_)
  cases rr with
  | error er => exact False.elim hq
  | ok fl =>
    cases fl with
    | ret u => exact hR u s' (I.after hq)
    | next => exact False.elim hq
    | brk => exact False.elim hq
    | cont => exact False.elim hq
theorem EV.reprOW {q : Addr × Obj} (T : X.mg "repr" = none) (hpn : q ∈ X.pn) (ho : EV X o ρ μ (.obj C fs) μ1) (hm : OwnW X.prog X.w X.K X.mg X.base C "__repr__" k cn) (hr : L2H.RoomH (k + 1) X.A) (hC : cn [.obj C fs] μ1 (Ss t) μ2) (hg : Gl X "repr" := by rfl) (hs : starEach [o] X.env = (false, eval o X.env) :: starEach [] X.env := by rfl) : EV X (.Call (.Name "repr" p) [o] [] pos) ρ μ (Ss t) μ2 := by
  intro w σ H m s Q q'
  obtain ⟨g, fd, F, hfi, hfn, bi⟩ := hm.ex
  have cr : CallR X (.builtin "repr") (fun vs H Q => ∃ x dx ws, vs = [V.ref x] ∧ H x = some (.ins C dx ws) ∧ SpV X.K ["self"] cn [.ref x] H (fun v H' => ∃ z, v = .str z ∧ Q v H') E0) := by
    intro pins s σ H xs us Q I r h
    obtain ⟨x, dx, ws, rfl, hx, hsp⟩ := h
    obtain ⟨u, rfl, ru⟩ := vals1 r
    obtain rfl : u = Value.ref x := ru
    obtain ⟨od, J⟩ := ins_at I hx
    obtain ⟨mm, Fr0⟩ := I.fr
    refine PySem.W.repr_K (by have := hr.un; show X.A.units + 1 < cLine; omega) Fr0 I.mod.kin J hfi hfn (own_runW F ⟨by have := hr.dp; show X.A.depth + 3 * k + 5 < _; omega, by have := hr.un; show X.A.units + 1 + 16 * k + 200 < _; omega⟩ hpn I.ok.frames bi I hsp fun u s' hq => ?_)
    obtain ⟨v, H', I', rv, z, rfl, hq⟩ := hq
    obtain ⟨tk, rfl⟩ := rv
    exact ⟨.str z, H', I', ⟨tk, rfl⟩, hq⟩
  refine ⟨_, pe_callB cr hg T (by decide +kernel) (pa_cons (p_ex (e := o)) pa_nil hs) (by decide) (by decide) hs (by rfl), ?_⟩
  refine ho w σ H m s _ fun v H1 m1 f1 h1 => ?_
  have h1' := h1
  obtain ⟨x, dx, ws, rfl, hx, hn, hd⟩ := h1
  refine ⟨x, dx, ws, rfl, (dl_some hx).2, w, μ1, [.obj C fs], Ss t, μ2, m1, .cons (r := .obj C fs) h1' .nil, rfl, hC, fun v' H2 m2 f2 h2 => ?_⟩
  cases h2
  exact ⟨_, rfl, q' _ H2 m2 (f1.trans f2) (Dq.str _)⟩
end
end J
namespace J
open PySem PySem.Spec
open PyProof.Rows L2
section
variable {w : World} {P : Program} {K : PySem.W.Frag} {base : Heap} {mg : Str → Option Value} {C : Addr}
theorem okReprW {f : Addr} {fd : FuncData} (T : Bt mg) (F : Fun K "__repr__" "Book.__repr__" sRepr f fd) (B : Kl K C) : FnW P w K mg base 1 f fd (SpV K ["self"] (cnRepr C)) := by
  refine fn_mkW F scRepr (by decide) (fun rs μ r μ' h => by obtain ⟨_, rfl, _, _, rfl⟩ := h; exact ⟨rfl, rfl⟩) fun cdv A outer s H p hr rs μ r μ' hC => ?_
  obtain ⟨ps, rfl, G, rfl, rfl⟩ := hC
  have h4 := G.le4
  refine ST.retP (EV.joined (JV.cons EV.str (JV.cons (EV.fmtI (bLenT T (EV.fld (nm 0) B.cl B.nK rfl)) (log_small (by omega))) (JV.cons EV.str JV.nil))) (fit_of _ _ ?_)) rfl
  have e1 : ((("Book of " : String) : Str)).length = 8 := by decide +kernel
  have e2 : (((" plans" : String) : Str)).length = 6 := by decide +kernel
  have e3 : (Str.empty).length = 0 := by decide +kernel
  have e4 := strI_len (ps.length : Int) (by omega) (by omega)
  have e4' : ((toString (ps.length : Int) : String) : Str).length = 1 := e4
  simp only [List.map_cons, List.map_nil, List.sum_cons, List.sum_nil, e1, e2, e3, e4']
  decide
structure OwnR (P : Program) (w : World) (K : PySem.W.Frag) (mg : Str → Option Value) (base : Heap) (C : Addr) : Prop where
  o : Own P w K mg base C "__repr__" 1 (cnRepr C)
  h : OwnW P w K mg base C "__repr__" 1 (cnRepr C)
end
end J
namespace J
open PySem PySem.Spec
open PyProof.Rows L2
section
variable {M : Model} {A : Around} {E : Value → Shared → Prop} {s : Shared} {K : PySem.W.Frag} {x C f : Addr} {ox : Obj} {od : Option Obj} {base : Nat} {Q : Str → Shared → Prop}
theorem own_under (hu : A.units < cLine) (hb : base ≤ sizeLine) (X : K.In s.heap) (I : PySem.W.InstAt s.heap x ox C od) (hs : PySem.W.findIn K (.ref C) "__repr__" = some (some (.ref f))) (hf : PySem.W.isFn K (.ref f) = true)
    (h : wpAny M A (call (.ref f) [.ref x]) (fun v s' => ∃ y u, v = .str y u ∧ Q y s') E s) : wpAny M A (pyReprUnder base (.ref x)) Q E s := by
  refine wpAny_pyReprUnder_ref hb ?_
  unfold pyReprObjUnder pyReprObjBy
  refine wpAny_bind (wpAny_cRoomFor hu ?_)
  refine wpAny_bind (wpAny_bind (I.type.here ((PySem.W.looks_findIn X hs).here ?_)))
  show wpAny _ _ (if (some (Value.ref f)).isNone = true then _ else _) _ _ _
  rw [if_neg (by simp)]
  refine wpAny_bind ?_
  simp only [callSpecialIfBoundBy?, bindSpecialIfBound?]
  refine wpAny_holding (wpAny_bind (wpAny_bind (wpAny_bind (I.type.here ((PySem.W.looks_findIn X hs).here ?_)))))
  refine wpAny_bind (wpAny_askSetting (wpAny_ite ?_))
  have fin : wpAny M A (call (.ref f) ([.ref x] ++ []) >>= fun v => pure (some v)) (fun r s' => wpAny M A (match r with
      | some r => (do if ← isInstance r (.type "str") then pure r else raiseError "TypeError" s!"__repr__ returned non-string (type {← typeNameOf r})")
      | none => unsupported "repr:special-get-raises") (fun v s' => ∃ x u, v = .str x u ∧ Q x s') E s') E s := by
    refine wpAny_bind (wpAny_mono h (fun v s' hv => ?_) fun _ _ y => y)
    obtain ⟨y, u, rfl, hq⟩ := hv
    refine wpAny_pure ?_
    exact wpAny_bind (wpAny_isInstance (T := "str") (b := true) rfl isSubtype_str_str (wpAny_pure ⟨_, _, rfl, hq⟩))
  split
  · exact wpAny_bind ((PySem.W.bind_fn X _ (beq_iff_eq.mp hf)).here (wpAny_pure (by exact fin)))
  · exact wpAny_tryCatch (wpAny_bind ((PySem.W.bind_fn X _ (beq_iff_eq.mp hf)).here (wpAny_pure (by exact fin))))
end
theorem under_loop (A : Around) (args : Args) : (A.under (.builtin "list.__repr__.loop" args)).frames = A.frames ∧ (A.under (.builtin "list.__repr__.loop" args)).handled = A.handled ∧ (A.under (.builtin "list.__repr__.loop" args)).depth ≤ A.depth + 1 ∧ (A.under (.builtin "list.__repr__.loop" args)).units ≤ A.units + 1 := by
  refine ⟨?_, rfl, ?_, ?_⟩
  · simp [Around.under, Code.envs, Code.isFrame, pushEnvs]
  · simp [Around.under, Code.weight, Code.frames, Code.isCreation, Code.isCaller, Code.isGuard, guardIds]
    rfl
  · exact Nat.le_refl _
theorem under_tup (A : Around) (args : Args) : (A.under (.builtin "tuple.__repr__" args)).frames = A.frames ∧ (A.under (.builtin "tuple.__repr__" args)).handled = A.handled ∧ (A.under (.builtin "tuple.__repr__" args)).depth ≤ A.depth + 1 ∧ (A.under (.builtin "tuple.__repr__" args)).units ≤ A.units + 1 := by
  refine ⟨?_, rfl, ?_, ?_⟩
  · simp [Around.under, Code.envs, Code.isFrame, pushEnvs]
  · simp [Around.under, Code.weight, Code.frames, Code.isCreation, Code.isCaller, Code.isGuard, guardIds]
    rfl
  · exact Nat.le_refl _
noncomputable def Item (X : Cx) (pins : List (Addr × Obj)) (σ : L2.St) (A : Around) (a : Addr) (o : HO) (x : Value) (t : Str) (H : Hp) (Q : Hp → Prop) : Prop :=
  ∀ (A' : Around) (base : Nat) (qs : List (Addr × Obj)) (s1 : Shared) (E : Value → Shared → Prop), A'.frames = A.frames → A'.handled = A.handled → A'.depth ≤ A.depth + 1 → A'.units ≤ A.units + 1 → base + t.length ≤ sizeLine → Inv X (qs ++ pins) σ H s1 →
    wpAny (model X.prog X.w) A' (pyReprUnder base x) (fun y s2 => y = t ∧ ∃ H', Inv X (qs ++ pins) σ H' s2 ∧ H' a = some o ∧ Q H') E s1
section
variable {X : Cx} {pins : List (Addr × Obj)} {σ : L2.St} {H : Hp} {s : Shared} {a x : Addr} {t : Str} {Q : VK} {A : Around} {E : Value → Shared → Prop}
open Builtin Builtin.List in
theorem list_one (I : Inv X pins σ H s) (ha : H a = some (.lst [.ref x])) (hg : A.guards = some []) (hi : Item X pins σ A a (.lst [.ref x]) (.ref x) t H fun H' => Q (.str (listText [t])) H') (ht : t.length ≤ 1000) :
    wpAny (model X.prog X.w) A (call (.builtin "list.__repr__") [.ref a]) (EP X pins σ Q) E s := by
  obtain ⟨_, its, na, rv, hget⟩ := I.hok a _ ha
  obtain ⟨u, rfl, ru⟩ := vals1 rv
  obtain rfl : u = Value.ref x := ru
  have hL : (listText [t]).length ≤ 2000 := by
    show (("[" : Str) ++ (if 0 > 0 then ", " else "" : String) ++ t ++ "]").length ≤ 2000
    rw [strLen_append, strLen_append, strLen_append]
    have e1 : (("[" : String) : Str).length = 1 := by decide +kernel
    have e2 : (("]" : String) : Str).length = 1 := by decide +kernel
    have e3 : (((if 0 > 0 then ", " else "" : String) : Str)).length = 0 := by decide +kernel
    omega
  have hS : 2000 ≤ sizeLine := by decide
  refine wpAny_call (codeAny_call_builtin F.slot_list_repr.plain F.entry_list_repr (F.slot_list_repr.check _ _ _ _ _ _ _ _ ⟨_, hget, rfl⟩ (F.args_list_repr_1 _) ?_))
  show wpAny _ A.in1 (Builtin.listReprAt 0 ⟨[.ref a], []⟩) _ _ s
  refine wpAny_list_repr_head (A := A.in1) (l := []) hg (fun v rest kw hm => nomatch hm) hget rfl ?_
  refine wpAny_bind (m := newList []) (wpAny_newObj_type ?_)
  refine wpAny_pure ⟨F.quiet_list_repr_loop _, ?_⟩
  have I1 : Inv X ((s.heap.objs.size, _) :: pins) σ H { s with heap := s.heap.push { cls := .type "list", dict := none, data := .seq #[] 0 } } := ClX.pin_new (t' := s.toks) I (fun b u e => Heap.get?_push_of_some _ e) (Nat.le_refl _) (Heap.get?_push_size _ rfl) (fun v z => by cases z)
  refine codeAny_builtin F.entry_list_repr_loop ?_
  show wpAny _ _ («list.__repr__.loop» ⟨[.ref a, .int 0 0, .ref s.heap.objs.size, .int 0 0], []⟩) _ _ _
  rw [repr_loop_tree]
  refine wpAny_bind (wpAny_listItems (Heap.get?_push_of_some _ hget) rfl ?_)
  obtain ⟨u1, u2, u3, u4⟩ := under_loop A ⟨[.ref a, .int 0 0, .ref s.heap.objs.size, .int 0 0], []⟩
  show wpAny _ _ (_ >>= _) _ _ _
  refine wpAny_bind (wpAny_holding (wpAny_mono (hi _ 1 [_] _ _ u1 u2 u3 u4 (by omega) I1) (fun y s2 hy => ?_) fun _ _ e => e))
  obtain ⟨rfl, H', I2, ha2, hq⟩ := hy
  have hP := ClX.pin_at I2
  refine wpAny_bind (wpAny_mkStr ?_ (by omega))
  refine wpAny_bind ?_
  show wpAny _ _ (updateSeq s.heap.objs.size _) _ _ _
  refine wpAny_updateSeq hP rfl (wpAny_pure ⟨F.quiet_list_repr_loop _, ?_⟩) (by decide)
  have I3 : Inv X pins σ H' { s2 with heap := s2.heap.update s.heap.objs.size (Obj.mapSeq (·.push (.str y s2.toks))), toks := s2.toks + 1 } := by
    refine (ClX.unpin I2).turned (it := s.heap.objs.size) (fun b o hb e => (Heap.get?_update_other _ _ (fun z => hb z.symm)).trans e) (ClX.pin_un I2) (Nat.ne_of_gt I.lt) (.inr I.sz) (fun n c hc z => ?_) (fun p hp z => ?_)
    · obtain ⟨v, o, ho, _⟩ := I.cell n c hc
      have := Heap.lt_size ho
      rw [z] at this
      exact absurd this (Nat.lt_irrefl _)
    · have := Heap.lt_size (I.pin p hp).1
      rw [z] at this
      exact absurd this (Nat.lt_irrefl _)
  obtain ⟨_, its2, n2, rv2, hget2⟩ := I3.hok a _ ha2
  obtain ⟨u2', rfl, ru2⟩ := vals1 rv2
  refine codeAny_builtin F.entry_list_repr_loop ?_
  show wpAny _ _ («list.__repr__.loop» ⟨[.ref a, .int 1 0, .ref s.heap.objs.size, .int _ 0], []⟩) _ _ _
  rw [repr_loop_tree]
  refine wpAny_bind (wpAny_listItems hget2 rfl ?_)
  show wpAny _ _ (reprEnd (.ref s.heap.objs.size)) _ _ _
  unfold reprEnd
  refine wpAny_bind (wpAny_listItems (Heap.get?_update_self _ hP rfl) rfl ?_)
  show wpAny _ _ ((forIn ((strValues [(y, s2.toks)]).zipIdx 0) _ reprBody : Sem Str) >>= _) _ _ _
  rw [repr_fold]
  refine wpAny_bind (wpAny_pure ?_)
  refine wpAny_bind (wpAny_mkStr (wpAny_pure ?_) (by show (listText [y]).length ≤ _; omega))
  exact ⟨.str (listText [y]), H', I3.tok _, ⟨_, rfl⟩, hq⟩
open Builtin in
theorem tup_one (I : Inv X pins σ H s) (ha : H a = some (.tup [.ref x])) (hg : A.guards = some []) (hi : Item X pins σ A a (.tup [.ref x]) (.ref x) t H fun H' => Q (.str (tupleText [t])) H') (ht : t.length ≤ 1000) :
    wpAny (model X.prog X.w) A (call (.builtin "tuple.__repr__") [.ref a]) (EP X pins σ Q) E s := by
  obtain ⟨_, its, rv, hT⟩ := I.hok a _ ha
  obtain ⟨u, rfl, ru⟩ := vals1 rv
  obtain ⟨oa, hget, hcl, na, hda⟩ := hT
  obtain rfl : u = Value.ref x := ru
  have hL : (tupleText [t]).length ≤ 2000 := by
    show (("(" : Str) ++ t ++ (if true then ",)" else ")" : String)).length ≤ 2000
    rw [strLen_append, strLen_append]
    have e1 : (("(" : String) : Str).length = 1 := by decide +kernel
    have e3 : (((if true then ",)" else ")" : String) : Str)).length = 2 := by decide +kernel
    omega
  have hS : 2000 ≤ sizeLine := by decide
  refine wpAny_call (codeAny_call_builtin_own (Code.quiet_builtin _ (by decide +kernel)) F.entry_tuple_repr (F.slot_tuple_repr.check _ _ _ _ _ _ _ _ ⟨_, hget, hcl⟩ (F.args_tuple_repr_1 _) ?_))
  show wpOwn _ A _ (Builtin.tupleReprAt 0 ⟨[.ref a], []⟩) _ _ s
  rw [tuple_repr_tree, tupleReprUnderWay_eq]
  refine wpOwn_bind (wpOwn_stackTailAny hg (tupGuardF_off _) (tupGuardF_pos _) ?_)
  refine wpOwn_of_wpAny ?_
  show wpAny _ _ (tupleReprRest 0 (.ref a)) _ _ s
  unfold tupleReprRest Builtin.Tuple.tupleItemsOf
  refine wpAny_bind (wpAny_bind (wpAny_seqItems hget hda (wpAny_pure ?_)))
  obtain ⟨u1, u2, u3, u4⟩ := under_tup A ⟨[.ref a], []⟩
  rw [← Array.forIn_toList]
  show wpAny _ _ (forIn [Value.ref x] _ tupBody >>= _) _ _ _
  rw [List.forIn_cons]
  refine wpAny_bind (wpAny_bind (wpAny_bind (wpAny_mono (hi _ 1 [] _ _ u1 u2 u3 u4 (by omega) I) (fun y s2 hy => ?_) fun _ _ e => e)))
  obtain ⟨rfl, H', I2, ha2, hq⟩ := hy
  refine wpAny_pure ?_
  simp only [List.forIn_nil]
  refine wpAny_pure ?_
  refine wpAny_bind (wpAny_mkStr (wpAny_pure ?_) (by show (tupleText [y]).length ≤ _; omega))
  exact ⟨.str (tupleText [y]), H', I2.tok _, ⟨_, rfl⟩, hq⟩
end
noncomputable def RunsR (X : Cx) (C : Addr) (cn : Con) : Prop := ∃ g, PySem.W.findIn X.K (.ref C) "__repr__" = some (some (.ref g)) ∧ PySem.W.isFn X.K (.ref g) = true ∧
  ∀ (A' : Around) (pins : List (Addr × Obj)) (σ : L2.St) (H : Hp) (s : Shared) (x : Addr) (Q : VK) (R E' : Value → Shared → Prop), A'.frames = some X.stack → A'.handled = X.A.handled → A'.depth ≤ X.A.depth + 1 → A'.units ≤ X.A.units + 4 → Inv X pins σ H s →
    SpV X.K ["self"] cn [.ref x] H Q E0 → (∀ u s', EP X pins σ Q u s' → R u s') → wpAny (model X.prog X.w) A' (call (.ref g) [.ref x]) R E' s
section
variable {X : Cx} {ρ : REnv} {μ μ1 : Sto} {e : Expr} {C : Addr} {fs : List (Str × PyData)} {k : Nat} {cn : Con} {t : Str} {p pos : Pos}
theorem runs_calm (hm : Own X.prog X.w X.K X.mg X.base C "__repr__" k cn) (hr : Room (k + 1) X.A) : RunsR X C cn := by
  obtain ⟨g, fd, F, hfi, hfn, bi⟩ := hm.ex
  refine ⟨g, hfi, hfn, fun A' pins σ H s x Q R E' h1 h2 h3 h4 I hS hR => own_run F ⟨h2.trans hr.hd, ?_, ?_⟩ h1 bi I hS hR⟩
  · have := hr.dp
    omega
  · have := hr.un
    omega
theorem runs_hot {q : Addr × Obj} (hm : OwnW X.prog X.w X.K X.mg X.base C "__repr__" k cn) (hr : L2H.RoomH (k + 1) X.A) (hq : q ∈ X.pn) : RunsR X C cn := by
  obtain ⟨g, fd, F, hfi, hfn, bi⟩ := hm.ex
  refine ⟨g, hfi, hfn, fun A' pins σ H s x Q R E' h1 h2 h3 h4 I hS hR => own_runW F ⟨?_, ?_⟩ hq h1 bi I hS hR⟩
  · have := hr.dp
    omega
  · have := hr.un
    omega
theorem item_of {pins : List (Addr × Obj)} {σ : L2.St} {H : Hp} {a x dx : Addr} {o : HO} {ws : List (Str × V)} {Q : Hp → Prop} {A : Around} (hR : RunsR X C cn) (h1 : A.frames = X.A.frames) (h2 : A.handled = X.A.handled) (h3 : A.depth ≤ X.A.depth) (h4 : A.units ≤ X.A.units + 3) (hu : X.A.units + 100 < cLine)
    (hx : H x = some (.ins C dx ws)) (hS : SpV X.K ["self"] cn [.ref x] H (fun v H' => v = .str t ∧ H' a = some o ∧ Q H') E0) : Item X pins σ A a o (.ref x) t H Q := by
  intro A' base qs s1 E e1 e2 e3 e4 hb I
  obtain ⟨g, hfi, hfn, run⟩ := hR
  obtain ⟨od, J⟩ := ins_at I hx
  refine own_under (by omega) (by omega) I.kIn J hfi hfn (run A' _ _ _ _ x _ _ E (by rw [e1, h1]; exact I.ok.frames) (e2.trans h2) (by omega) (by omega) I hS fun u s' hq => ?_)
  obtain ⟨v, H', I', rv, rfl, ha', hq⟩ := hq
  obtain ⟨tk, rfl⟩ := rv
  exact ⟨t, tk, rfl, rfl, H', I', ha', hq⟩
theorem EV.reprL1 (T : X.mg "repr" = none) (hgd : X.A.guards = some []) (hu : X.A.units + 100 < cLine) (ho : EV X e ρ μ (.dat (.list [obD C fs])) μ1) (hR : RunsR X C cn) (hC : cn [.obj C fs] μ1 (Ss t) μ1) (ht : t.length ≤ 1000) (hg : Gl X "repr" := by rfl) (hs : starEach [e] X.env = (false, eval e X.env) :: starEach [] X.env := by rfl) : EV X (.Call (.Name "repr" p) [e] [] pos) ρ μ (Ss (listText [t])) μ1 := by
  intro w σ H m s Q q
  have cr : CallR X (.builtin "repr") (fun vs H Q => ∃ a x dx ws, vs = [V.ref a] ∧ H a = some (.lst [.ref x]) ∧ H x = some (.ins C dx ws) ∧ SpV X.K ["self"] cn [.ref x] H (fun v H' => v = .str t ∧ H' a = some (.lst [.ref x]) ∧ Q (.str (listText [t])) H') E0) := by
    intro pins s σ H xs us Q I r h
    obtain ⟨a, x, dx, ws, rfl, ha, hx, hsp⟩ := h
    obtain ⟨u, rfl, ru⟩ := vals1 r
    obtain rfl : u = Value.ref a := ru
    obtain ⟨_, its, na, rv, hget⟩ := I.hok a _ ha
    refine call_repr_slot (by omega) ⟨_, hget, rfl⟩ F.slot_list_repr.toG (wpAny_mono (list_one (A := X.A.in1) (t := t) (Q := fun v H' => v = .str (listText [t]) ∧ Q v H') I ha hgd (item_of hR rfl rfl (Nat.le_refl _) (Nat.le_trans (Nat.le_refl _) (show X.A.units + 1 ≤ X.A.units + 3 by omega)) hu hx ?_) ht) (fun r s' hq => ?_) fun _ _ y => y)
    · obtain ⟨w1, m1, rs, r1, m2, z1, z2, z3, z4, z5⟩ := hsp
      exact ⟨w1, m1, rs, r1, m2, z1, z2, z3, z4, fun v H' a1 a2 a3 => let ⟨b1, b2, b3⟩ := z5 v H' a1 a2 a3; ⟨b1, b2, rfl, b3⟩⟩
    · obtain ⟨v, H', I', rv, rfl, hq⟩ := hq
      obtain ⟨tk, rfl⟩ := rv
      exact ⟨_, _, rfl, .str _, H', I', ⟨tk, rfl⟩, hq⟩
  refine ⟨_, pe_callB cr hg T (by decide +kernel) (pa_cons (p_ex (e := e)) pa_nil hs) (by decide) (by decide) hs (by rfl), ?_⟩
  refine ho w σ H m s _ fun v H1 m1 f1 h1 => ?_
  have h1' : Dq (dl H1 w.all) v (.list [obD C fs]) := h1
  cases h1' with
  | @lst a xs _ hs ha =>
    cases ha with
    | @cons v1 _ _ _ hv1 hnil =>
      cases hnil
      have hv : Val X.K H1 w v1 (.obj C fs) := val_obj hv1
      have hv' := hv
      obtain ⟨x, dx, ws, rfl, hx, hn, hd⟩ := hv
      have ha0 := dl_some hs
      refine ⟨a, x, dx, ws, rfl, ha0.2, (dl_some hx).2, w, μ1, [.obj C fs], Ss t, μ1, m1, .cons (r := .obj C fs) hv' .nil, rfl, hC, fun v' H2 m2 f2 h2 => ?_⟩
      cases h2
      exact ⟨rfl, f2 a _ ha0.2 (fun z => ha0.1 (List.mem_append_left _ z)) (fun _ z => by cases z), q _ H2 m2 (f1.trans f2) (Dq.str _)⟩
theorem EV.reprT1 (T : X.mg "repr" = none) (hgd : X.A.guards = some []) (hu : X.A.units + 100 < cLine) (ho : EV X e ρ μ (.dat (.tuple [obD C fs])) μ1) (hR : RunsR X C cn) (hC : cn [.obj C fs] μ1 (Ss t) μ1) (ht : t.length ≤ 1000) (hg : Gl X "repr" := by rfl) (hs : starEach [e] X.env = (false, eval e X.env) :: starEach [] X.env := by rfl) : EV X (.Call (.Name "repr" p) [e] [] pos) ρ μ (Ss (tupleText [t])) μ1 := by
  intro w σ H m s Q q
  have cr : CallR X (.builtin "repr") (fun vs H Q => ∃ a x dx ws, vs = [V.ref a] ∧ H a = some (.tup [.ref x]) ∧ H x = some (.ins C dx ws) ∧ SpV X.K ["self"] cn [.ref x] H (fun v H' => v = .str t ∧ H' a = some (.tup [.ref x]) ∧ Q (.str (tupleText [t])) H') E0) := by
    intro pins s σ H xs us Q I r h
    obtain ⟨a, x, dx, ws, rfl, ha, hx, hsp⟩ := h
    obtain ⟨u, rfl, ru⟩ := vals1 r
    obtain rfl : u = Value.ref a := ru
    obtain ⟨_, its, rv, oa, hget, hcl, na, hda⟩ := I.hok a _ ha
    refine call_repr_slot (by omega) ⟨_, hget, hcl⟩ F.slot_tuple_repr (wpAny_mono (tup_one (A := X.A.in1) (t := t) (Q := fun v H' => v = .str (tupleText [t]) ∧ Q v H') I ha hgd (item_of hR rfl rfl (Nat.le_refl _) (Nat.le_trans (Nat.le_refl _) (show X.A.units + 1 ≤ X.A.units + 3 by omega)) hu hx ?_) ht) (fun r s' hq => ?_) fun _ _ y => y)
    · obtain ⟨w1, m1, rs, r1, m2, z1, z2, z3, z4, z5⟩ := hsp
      exact ⟨w1, m1, rs, r1, m2, z1, z2, z3, z4, fun v H' a1 a2 a3 => let ⟨b1, b2, b3⟩ := z5 v H' a1 a2 a3; ⟨b1, b2, rfl, b3⟩⟩
    · obtain ⟨v, H', I', rv, rfl, hq⟩ := hq
      obtain ⟨tk, rfl⟩ := rv
      exact ⟨_, _, rfl, .str _, H', I', ⟨tk, rfl⟩, hq⟩
  refine ⟨_, pe_callB cr hg T (by decide +kernel) (pa_cons (p_ex (e := e)) pa_nil hs) (by decide) (by decide) hs (by rfl), ?_⟩
  refine ho w σ H m s _ fun v H1 m1 f1 h1 => ?_
  have h1' : Dq (dl H1 w.all) v (.tuple [obD C fs]) := h1
  cases h1' with
  | @tup a xs _ hs ha =>
    cases ha with
    | @cons v1 _ _ _ hv1 hnil =>
      cases hnil
      have hv : Val X.K H1 w v1 (.obj C fs) := val_obj hv1
      have hv' := hv
      obtain ⟨x, dx, ws, rfl, hx, hn, hd⟩ := hv
      have ha0 := dl_some hs
      refine ⟨a, x, dx, ws, rfl, ha0.2, (dl_some hx).2, w, μ1, [.obj C fs], Ss t, μ1, m1, .cons (r := .obj C fs) hv' .nil, rfl, hC, fun v' H2 m2 f2 h2 => ?_⟩
      cases h2
      exact ⟨rfl, f2 a _ ha0.2 (fun z => ha0.1 (List.mem_append_left _ z)) (fun _ z => by cases z), q _ H2 m2 (f1.trans f2) (Dq.str _)⟩
end
end J
namespace J
open PySem PySem.Spec
open PyProof.Rows L2
inductive ShoO (P : Program) (w : World) (K : PySem.W.Frag) (mg : Str → Option Value) (base : Heap) : PyData → Str → Prop where
  | dat {d : PyData} (h : ShoB base d) : ShoO P w K mg base d d.shown
  | book {C : Addr} {ps : List PyData} (G : M.Good ps) (hm : OwnR P w K mg base C) : ShoO P w K mg base (obD C [("kept", .tuple ps)]) (M.bookShown ps)
  | lst1 {C : Addr} {ps : List PyData} (G : M.Good ps) (hm : OwnR P w K mg base C) : ShoO P w K mg base (.list [obD C [("kept", .tuple ps)]]) (listText [M.bookShown ps])
  | tup1 {C : Addr} {ps : List PyData} (G : M.Good ps) (hm : OwnR P w K mg base C) : ShoO P w K mg base (.tuple [obD C [("kept", .tuple ps)]]) (tupleText [M.bookShown ps])
theorem book_shown_len {ps : List PyData} (G : M.Good ps) : (M.bookShown ps).length ≤ 1000 := by
  have lit : ∀ m : _root_.Fin 5, (catS Str.empty ["Book of ", M.strI ((m.val : Nat) : Int), " plans"]).length ≤ 1000 := by decide +kernel
  have h4 := G.le4
  exact lit ⟨ps.length, by omega⟩
section
variable {X : Cx} {ρ : REnv} {μ μ1 : Sto} {o : Expr} {d : PyData} {t : Str} {p pos : Pos}
theorem EV.reprAny (T : X.mg "repr" = none) (hgd : X.A.guards = some []) (hr : Room 2 X.A) (ho : EV X o ρ μ (.dat d) μ1) (hd : ShoO X.prog X.w X.K X.mg X.base d t) (hg : Gl X "repr" := by rfl) (hs : starEach [o] X.env = (false, eval o X.env) :: starEach [] X.env := by rfl) : EV X (.Call (.Name "repr" p) [o] [] pos) ρ μ (Ss t) μ1 := by
  cases hd with
  | dat h => exact EV.reprB T hgd (Nat.lt_of_le_of_lt (Nat.add_le_add_left (show 100 ≤ 16 * 2 + 200 by decide) _) hr.un) ho h hg hs
  | book G hm => exact EV.reprO T (EV.dob ho) hm.o hr ⟨_, rfl, G, rfl, rfl⟩ hg hs
  | lst1 G hm => exact EV.reprL1 T hgd (Nat.lt_of_le_of_lt (Nat.add_le_add_left (show 100 ≤ 16 * 2 + 200 by decide) _) hr.un) ho (runs_calm hm.o hr) ⟨_, rfl, G, rfl, rfl⟩ (book_shown_len G) hg hs
  | tup1 G hm => exact EV.reprT1 T hgd (Nat.lt_of_le_of_lt (Nat.add_le_add_left (show 100 ≤ 16 * 2 + 200 by decide) _) hr.un) ho (runs_calm hm.o hr) ⟨_, rfl, G, rfl, rfl⟩ (book_shown_len G) hg hs
theorem EV.reprAnyW {q : Addr × Obj} (T : X.mg "repr" = none) (hgd : X.A.guards = some []) (hr : L2H.RoomH 2 X.A) (hq : q ∈ X.pn) (ho : EV X o ρ μ (.dat d) μ1) (hd : ShoO X.prog X.w X.K X.mg X.base d t) (hg : Gl X "repr" := by rfl) (hs : starEach [o] X.env = (false, eval o X.env) :: starEach [] X.env := by rfl) : EV X (.Call (.Name "repr" p) [o] [] pos) ρ μ (Ss t) μ1 := by
  cases hd with
  | dat h => exact EV.reprB T hgd (Nat.lt_of_le_of_lt (Nat.add_le_add_left (show 100 ≤ 16 * 2 + 200 by decide) _) hr.un) ho h hg hs
  | book G hm => exact EV.reprOW T hq (EV.dob ho) hm.h hr ⟨_, rfl, G, rfl, rfl⟩ hg hs
  | lst1 G hm => exact EV.reprL1 T hgd (Nat.lt_of_le_of_lt (Nat.add_le_add_left (show 100 ≤ 16 * 2 + 200 by decide) _) hr.un) ho (runs_hot hm.h hr hq) ⟨_, rfl, G, rfl, rfl⟩ (book_shown_len G) hg hs
  | tup1 G hm => exact EV.reprT1 T hgd (Nat.lt_of_le_of_lt (Nat.add_le_add_left (show 100 ≤ 16 * 2 + 200 by decide) _) hr.un) ho (runs_hot hm.h hr hq) ⟨_, rfl, G, rfl, rfl⟩ (book_shown_len G) hg hs
end
noncomputable def toldO (n : Nat) (t : Str) : List PyData := [.str (errName n), .str t]
noncomputable def spErrO (P : Program) (w : World) (K : PySem.W.Frag) (mg : Str → Option Value) (base : Heap) : Addr × Obj → Hp → VK → Prop := fun p G R => ∃ (w0 : Wd) (μ : Sto) (D d : Addr) (n : Nat) (f : Str) (x : PyData) (tt : Str), Mem K G w0 μ ∧ Val K G w0 (.ref p.1) (.exc p.1 d [(f, x)]) ∧ Zc (.ref D) (some d) p.2 ∧ (∃ vs, p.2.data = .fields vs) ∧ ErrC K mg D n f ∧ ShoO P w K mg base x tt ∧
  ∀ v H', Mem K H' w0 μ → Fr w0.α G H' → Val K H' w0 v (Ls (toldO n tt)) → R v H'
section
variable {w : World} {P : Program} {K : PySem.W.Frag} {base : Heap} {mg : Str → Option Value}
theorem okErrO {fa : Addr} {fd : FuncData} (T : mg "isinstance" = none) (T2 : mg "repr" = none) (F : Fun K "_law_error" "_law_error" sLError fa fd) : FnE P w K mg base 3 fa fd "_law_e" (spErrO P w K mg base) := by
  refine funE F scLErr fun cdv B st t G R p hgd hr h => ?_
  obtain ⟨w0, μ, D, d, n, f, x, tt, m, hv, hz, hf, C, hx, q⟩ := h
  refine (show ST (errX P w K mg base fa cdv B st t G p) W0 μ.length (defBody sLError) [some (.exc p.1 d [(f, x)]), none, none, none, none, none] μ (PostR (Ls (toldO n tt)) μ) from ?_) w0 _ G _ (Nat.le_of_eq m.len.symm) m (sl_start (N := nLE) (rs := [.exc p.1 d [(f, x)]]) (.cons hv .nil) (show 1 ≤ 6 by decide)) fun oo ho => ?_
  · have M : ExE (errX P w K mg base fa cdv B st t G p) D p.1 d := ⟨C.cls, C.xfc, p.2, List.mem_cons_self, hz, hf⟩
    have hu : (errX P w K mg base fa cdv B st t G p).A.units + 100 < cLine := by
      refine Nat.lt_of_le_of_lt ?_ hr.un
      exact Nat.add_le_add_left (show 100 ≤ 16 * 2 + 200 by decide) _
    obtain ⟨T0, a0, k0⟩ := C.kit 0 (by decide)
    obtain ⟨T1, a1, k1⟩ := C.kit 1 (by decide)
    obtain ⟨T2', a2, k2⟩ := C.kit 2 (by decide)
    obtain ⟨T3, a3, k3⟩ := C.kit 3 (by decide)
    obtain ⟨T4, a4, k4⟩ := C.kit 4 (by decide)
    obtain ⟨T5, a5, k5⟩ := C.kit 5 (by decide)
    obtain ⟨T6, a6, k6⟩ := C.kit 6 (by decide)
    obtain ⟨T7, a7, k7⟩ := C.kit 7 (by decide)
    obtain ⟨T8, a8, k8⟩ := C.kit 8 (by decide)
    obtain ⟨T9, a9, k9⟩ := C.kit 9 (by decide)
    obtain ⟨T10, a10, k10⟩ := C.kit 10 (by decide)
    obtain ⟨T11, a11, k11⟩ := C.kit 11 (by decide)
    obtain ⟨U0, b0, l0⟩ := C.bas 0 (by decide)
    obtain ⟨U1, b1, l1⟩ := C.bas 1 (by decide)
    obtain ⟨U2, b2, l2⟩ := C.bas 2 (by decide)
    obtain ⟨c0, o0⟩ := C.own 0 (by decide)
    obtain ⟨c1, o1⟩ := C.own 1 (by decide)
    obtain ⟨c2, o2⟩ := C.own 2 (by decide)
    have ie : ∀ {ρ : REnv} {n : Str} {c : Addr} {b : Bool} {pos p0 p1 p2}, ρ[0]? = some (some (.exc p.1 d [(f, x)])) → mg n = some (.ref c) → PySem.W.kitOne K (.ref D) (.ref c) = some b → Gl (errX P w K mg base fa cdv B st t G p) n → (n == ("__debug__" : Str)) = false → EV (errX P w K mg base fa cdv B st t G p) (.Call (.Name "isinstance" p0) [.Name "_law_e" p1, .Name n p2] [] pos) ρ μ (Bb b) μ := fun h0 h1 h2 h3 h4 => EV.isE M T ⟨h4, .inl ⟨_, rfl, h1⟩⟩ h2 (nm 0 (h := h0)) rfl h3
    have ib : ∀ {ρ : REnv} {n : Str} {c : String} {b : Bool} {pos p0 p1 p2}, ρ[0]? = some (some (.exc p.1 d [(f, x)])) → mg n = none → bootBuiltins n = some (.type c) → n ≠ "__name__" → PySem.W.kitOne K (.ref D) (.type c) = some b → Gl (errX P w K mg base fa cdv B st t G p) n → (n == ("__debug__" : Str)) = false → EV (errX P w K mg base fa cdv B st t G p) (.Call (.Name "isinstance" p0) [.Name "_law_e" p1, .Name n p2] [] pos) ρ μ (Bb b) μ := fun h0 h1 hb hn h2 h3 h4 => EV.isE M T ⟨h4, .inr ⟨_, rfl, h1, hb, hn⟩⟩ h2 (nm 0 (h := h0)) rfl h3
    refine ST.set (i := 1) (EVF.lst (ds := [.bool (0 == n), .bool (1 == n), .bool (2 == n)]) (AV.cons (ie rfl a0 k0 rfl rfl) (AV.cons (ie rfl a1 k1 rfl rfl) (AV.cons (ie rfl a2 k2 rfl rfl) AV.nil)))).ev scLErr.nd rfl (Or.inl rfl) ?_
    refine ST.set (i := 1) (oCat (nm 1) (EVF.lst (ds := [.bool (3 == n), .bool (4 == n), .bool (5 == n)]) (AV.cons (ie rfl a3 k3 rfl rfl) (AV.cons (ie rfl a4 k4 rfl rfl) (AV.cons (ie rfl a5 k5 rfl rfl) AV.nil)))).ev (by exact (show 3 + 3 ≤ sizeLine by decide))) scLErr.nd rfl (Or.inl rfl) ?_
    refine ST.set (i := 1) (oCat (nm 1) (EVF.lst (ds := [.bool (6 == n), .bool (7 == n), .bool (8 == n)]) (AV.cons (ie rfl a6 k6 rfl rfl) (AV.cons (ie rfl a7 k7 rfl rfl) (AV.cons (ie rfl a8 k8 rfl rfl) AV.nil)))).ev (by exact (show 6 + 3 ≤ sizeLine by decide))) scLErr.nd rfl (Or.inl rfl) ?_
    refine ST.set (i := 1) (oCat (nm 1) (EVF.lst (ds := [.bool (9 == n), .bool (10 == n), .bool (11 == n)]) (AV.cons (ie rfl a9 k9 rfl rfl) (AV.cons (ie rfl a10 k10 rfl rfl) (AV.cons (ie rfl a11 k11 rfl rfl) AV.nil)))).ev (by exact (show 9 + 3 ≤ sizeLine by decide))) scLErr.nd rfl (Or.inl rfl) ?_
    refine ST.set (i := 2) (EVF.lst (ds := [.bool (errSort n 0), .bool (errSort n 1), .bool (errSort n 2)]) (AV.cons (ie rfl b0 l0 rfl rfl) (AV.cons (ie rfl b1 l1 rfl rfl) (AV.cons (ie rfl b2 l2 rfl rfl) AV.nil)))).ev scLErr.nd rfl (Or.inl rfl) ?_
    refine ST.set (i := 3) (EVF.lst (ds := [.bool (errSort n 0), .bool (errSort n 1), .bool (errSort n 2)]) (AV.cons (ib rfl c0 (by decide +kernel) (by decide) o0 rfl rfl) (AV.cons (ib rfl c1 (by decide +kernel) (by decide) o1 rfl rfl) (AV.cons (ib rfl c2 (by decide +kernel) (by decide) o2 rfl rfl) AV.nil)))).ev scLErr.nd rfl (Or.inl rfl) ?_
    have no := C.no
    have hpn : p ∈ (errX P w K mg base fa cdv B st t G p).pn := List.mem_cons_self
    rcases C.at_ with ⟨rfl, rfl⟩ | ⟨rfl, rfl⟩ | ⟨rfl, rfl⟩ | ⟨rfl, rfl⟩ | ⟨rfl, rfl⟩ | ⟨rfl, rfl⟩ | ⟨rfl, rfl⟩ | ⟨rfl, rfl⟩ | ⟨rfl, rfl⟩
    all_goals
      refine ST.ifNo (WV.tv (WV.orF (tNe (EV.cnt (nm 1) EV.bl rfl rfl) EV.int) (WV.or1 (tNeD (by omega) (nm 3) (nm 2) (by decide +kernel) (by decide +kernel))) (by decide +kernel))) (by decide +kernel) ?_
    · refine ST.set (i := 4) (EV.idx (j := 0) (z := .bool true) (nm 1) EV.bl rfl rfl rfl rfl (idx_no (by decide +kernel))) scLErr.nd rfl (Or.inl rfl) ?_
      refine ST.ifNo (tNeD (by omega) (nm 2) (EVF.lst (ds := [.bool (decide ((0 : Int) < 7)), .bool (eqS (.int 0) (.int 7)), .bool (decide ((7 : Int) < 0))]) (AV.cons (cLt (nm 4) EV.int) (AV.cons (cEq (nm 4) EV.int) (AV.cons (cGt (nm 4) EV.int) AV.nil)))).ev (by decide +kernel) (by decide +kernel)) (by decide +kernel) ?_
      refine ST.set (i := 5) (EVF.lst (ds := (errNs.take 6).map .str) (AV.cons EV.str (AV.cons EV.str (AV.cons EV.str (AV.cons EV.str (AV.cons EV.str (AV.cons EV.str AV.nil))))))).ev scLErr.nd rfl (Or.inl rfl) ?_
      refine ST.set (i := 5) (oCat (nm 5) (EVF.lst (ds := (errNs.drop 6).map .str) (AV.cons EV.str (AV.cons EV.str (AV.cons EV.str (AV.cons EV.str (AV.cons EV.str (AV.cons EV.str AV.nil))))))).ev (by exact (show 6 + 6 ≤ sizeLine by decide))) scLErr.nd rfl (Or.inl rfl) ?_
      refine ST.ifYes (WV.tv (WV.orP (tLt (nm 4) EV.int) (WV.or1 (tEq (nm 4) EV.int)))) (by decide +kernel) ?_
      exact ST.retP (EVF.lst (ds := toldO 0 tt) (AV.cons (ixL (nm 5) (nm 4) rfl) (AV.cons (EV.reprAnyW T2 hgd hr hpn (EV.excF M no (nm 0) rfl) hx) AV.nil))).ev rfl
    · refine ST.set (i := 4) (EV.idx (j := 2) (z := .bool true) (nm 1) EV.bl rfl rfl rfl rfl (idx_no (by decide +kernel))) scLErr.nd rfl (Or.inl rfl) ?_
      refine ST.ifNo (tNeD (by omega) (nm 2) (EVF.lst (ds := [.bool (decide ((2 : Int) < 7)), .bool (eqS (.int 2) (.int 7)), .bool (decide ((7 : Int) < 2))]) (AV.cons (cLt (nm 4) EV.int) (AV.cons (cEq (nm 4) EV.int) (AV.cons (cGt (nm 4) EV.int) AV.nil)))).ev (by decide +kernel) (by decide +kernel)) (by decide +kernel) ?_
      refine ST.set (i := 5) (EVF.lst (ds := (errNs.take 6).map .str) (AV.cons EV.str (AV.cons EV.str (AV.cons EV.str (AV.cons EV.str (AV.cons EV.str (AV.cons EV.str AV.nil))))))).ev scLErr.nd rfl (Or.inl rfl) ?_
      refine ST.set (i := 5) (oCat (nm 5) (EVF.lst (ds := (errNs.drop 6).map .str) (AV.cons EV.str (AV.cons EV.str (AV.cons EV.str (AV.cons EV.str (AV.cons EV.str (AV.cons EV.str AV.nil))))))).ev (by exact (show 6 + 6 ≤ sizeLine by decide))) scLErr.nd rfl (Or.inl rfl) ?_
      refine ST.ifYes (WV.tv (WV.orP (tLt (nm 4) EV.int) (WV.or1 (tEq (nm 4) EV.int)))) (by decide +kernel) ?_
      exact ST.retP (EVF.lst (ds := toldO 2 tt) (AV.cons (ixL (nm 5) (nm 4) rfl) (AV.cons (EV.reprAnyW T2 hgd hr hpn (EV.excF M no (nm 0) rfl) hx) AV.nil))).ev rfl
    · refine ST.set (i := 4) (EV.idx (j := 5) (z := .bool true) (nm 1) EV.bl rfl rfl rfl rfl (idx_no (by decide +kernel))) scLErr.nd rfl (Or.inl rfl) ?_
      refine ST.ifNo (tNeD (by omega) (nm 2) (EVF.lst (ds := [.bool (decide ((5 : Int) < 7)), .bool (eqS (.int 5) (.int 7)), .bool (decide ((7 : Int) < 5))]) (AV.cons (cLt (nm 4) EV.int) (AV.cons (cEq (nm 4) EV.int) (AV.cons (cGt (nm 4) EV.int) AV.nil)))).ev (by decide +kernel) (by decide +kernel)) (by decide +kernel) ?_
      refine ST.set (i := 5) (EVF.lst (ds := (errNs.take 6).map .str) (AV.cons EV.str (AV.cons EV.str (AV.cons EV.str (AV.cons EV.str (AV.cons EV.str (AV.cons EV.str AV.nil))))))).ev scLErr.nd rfl (Or.inl rfl) ?_
      refine ST.set (i := 5) (oCat (nm 5) (EVF.lst (ds := (errNs.drop 6).map .str) (AV.cons EV.str (AV.cons EV.str (AV.cons EV.str (AV.cons EV.str (AV.cons EV.str (AV.cons EV.str AV.nil))))))).ev (by exact (show 6 + 6 ≤ sizeLine by decide))) scLErr.nd rfl (Or.inl rfl) ?_
      refine ST.ifNo (WV.tv (WV.orP (tLt (nm 4) EV.int) (WV.or1 (tEq (nm 4) EV.int)))) (by decide +kernel) ?_
      refine ST.ifYes (tLt (nm 4) EV.int) (by decide +kernel) ?_
      exact ST.retP (EVF.lst (ds := toldO 5 tt) (AV.cons (ixL (nm 5) (nm 4) rfl) (AV.cons (EV.reprAnyW T2 hgd hr hpn (EV.excF M no (nm 0) rfl) hx) AV.nil))).ev rfl
    · refine ST.set (i := 4) (EV.idx (j := 7) (z := .bool true) (nm 1) EV.bl rfl rfl rfl rfl (idx_no (by decide +kernel))) scLErr.nd rfl (Or.inl rfl) ?_
      refine ST.ifNo (tNeD (by omega) (nm 2) (EVF.lst (ds := [.bool (decide ((7 : Int) < 7)), .bool (eqS (.int 7) (.int 7)), .bool (decide ((7 : Int) < 7))]) (AV.cons (cLt (nm 4) EV.int) (AV.cons (cEq (nm 4) EV.int) (AV.cons (cGt (nm 4) EV.int) AV.nil)))).ev (by decide +kernel) (by decide +kernel)) (by decide +kernel) ?_
      refine ST.set (i := 5) (EVF.lst (ds := (errNs.take 6).map .str) (AV.cons EV.str (AV.cons EV.str (AV.cons EV.str (AV.cons EV.str (AV.cons EV.str (AV.cons EV.str AV.nil))))))).ev scLErr.nd rfl (Or.inl rfl) ?_
      refine ST.set (i := 5) (oCat (nm 5) (EVF.lst (ds := (errNs.drop 6).map .str) (AV.cons EV.str (AV.cons EV.str (AV.cons EV.str (AV.cons EV.str (AV.cons EV.str (AV.cons EV.str AV.nil))))))).ev (by exact (show 6 + 6 ≤ sizeLine by decide))) scLErr.nd rfl (Or.inl rfl) ?_
      refine ST.ifYes (WV.tv (WV.orP (tLt (nm 4) EV.int) (WV.or1 (tEq (nm 4) EV.int)))) (by decide +kernel) ?_
      exact ST.retP (EVF.lst (ds := toldO 7 tt) (AV.cons (ixL (nm 5) (nm 4) rfl) (AV.cons (EV.reprAnyW T2 hgd hr hpn (EV.excF M no (nm 0) rfl) hx) AV.nil))).ev rfl
    · refine ST.set (i := 4) (EV.idx (j := 1) (z := .bool true) (nm 1) EV.bl rfl rfl rfl rfl (idx_no (by decide +kernel))) scLErr.nd rfl (Or.inl rfl) ?_
      refine ST.ifNo (tNeD (by omega) (nm 2) (EVF.lst (ds := [.bool (decide ((1 : Int) < 7)), .bool (eqS (.int 1) (.int 7)), .bool (decide ((7 : Int) < 1))]) (AV.cons (cLt (nm 4) EV.int) (AV.cons (cEq (nm 4) EV.int) (AV.cons (cGt (nm 4) EV.int) AV.nil)))).ev (by decide +kernel) (by decide +kernel)) (by decide +kernel) ?_
      refine ST.set (i := 5) (EVF.lst (ds := (errNs.take 6).map .str) (AV.cons EV.str (AV.cons EV.str (AV.cons EV.str (AV.cons EV.str (AV.cons EV.str (AV.cons EV.str AV.nil))))))).ev scLErr.nd rfl (Or.inl rfl) ?_
      refine ST.set (i := 5) (oCat (nm 5) (EVF.lst (ds := (errNs.drop 6).map .str) (AV.cons EV.str (AV.cons EV.str (AV.cons EV.str (AV.cons EV.str (AV.cons EV.str (AV.cons EV.str AV.nil))))))).ev (by exact (show 6 + 6 ≤ sizeLine by decide))) scLErr.nd rfl (Or.inl rfl) ?_
      refine ST.ifYes (WV.tv (WV.orP (tLt (nm 4) EV.int) (WV.or1 (tEq (nm 4) EV.int)))) (by decide +kernel) ?_
      exact ST.retP (EVF.lst (ds := toldO 1 tt) (AV.cons (ixL (nm 5) (nm 4) rfl) (AV.cons (EV.reprAnyW T2 hgd hr hpn (EV.excF M no (nm 0) rfl) hx) AV.nil))).ev rfl
    · refine ST.set (i := 4) (EV.idx (j := 3) (z := .bool true) (nm 1) EV.bl rfl rfl rfl rfl (idx_no (by decide +kernel))) scLErr.nd rfl (Or.inl rfl) ?_
      refine ST.ifNo (tNeD (by omega) (nm 2) (EVF.lst (ds := [.bool (decide ((3 : Int) < 7)), .bool (eqS (.int 3) (.int 7)), .bool (decide ((7 : Int) < 3))]) (AV.cons (cLt (nm 4) EV.int) (AV.cons (cEq (nm 4) EV.int) (AV.cons (cGt (nm 4) EV.int) AV.nil)))).ev (by decide +kernel) (by decide +kernel)) (by decide +kernel) ?_
      refine ST.set (i := 5) (EVF.lst (ds := (errNs.take 6).map .str) (AV.cons EV.str (AV.cons EV.str (AV.cons EV.str (AV.cons EV.str (AV.cons EV.str (AV.cons EV.str AV.nil))))))).ev scLErr.nd rfl (Or.inl rfl) ?_
      refine ST.set (i := 5) (oCat (nm 5) (EVF.lst (ds := (errNs.drop 6).map .str) (AV.cons EV.str (AV.cons EV.str (AV.cons EV.str (AV.cons EV.str (AV.cons EV.str (AV.cons EV.str AV.nil))))))).ev (by exact (show 6 + 6 ≤ sizeLine by decide))) scLErr.nd rfl (Or.inl rfl) ?_
      refine ST.ifYes (WV.tv (WV.orP (tLt (nm 4) EV.int) (WV.or1 (tEq (nm 4) EV.int)))) (by decide +kernel) ?_
      exact ST.retP (EVF.lst (ds := toldO 3 tt) (AV.cons (ixL (nm 5) (nm 4) rfl) (AV.cons (EV.reprAnyW T2 hgd hr hpn (EV.excF M no (nm 0) rfl) hx) AV.nil))).ev rfl
    · refine ST.set (i := 4) (EV.idx (j := 4) (z := .bool true) (nm 1) EV.bl rfl rfl rfl rfl (idx_no (by decide +kernel))) scLErr.nd rfl (Or.inl rfl) ?_
      refine ST.ifNo (tNeD (by omega) (nm 2) (EVF.lst (ds := [.bool (decide ((4 : Int) < 7)), .bool (eqS (.int 4) (.int 7)), .bool (decide ((7 : Int) < 4))]) (AV.cons (cLt (nm 4) EV.int) (AV.cons (cEq (nm 4) EV.int) (AV.cons (cGt (nm 4) EV.int) AV.nil)))).ev (by decide +kernel) (by decide +kernel)) (by decide +kernel) ?_
      refine ST.set (i := 5) (EVF.lst (ds := (errNs.take 6).map .str) (AV.cons EV.str (AV.cons EV.str (AV.cons EV.str (AV.cons EV.str (AV.cons EV.str (AV.cons EV.str AV.nil))))))).ev scLErr.nd rfl (Or.inl rfl) ?_
      refine ST.set (i := 5) (oCat (nm 5) (EVF.lst (ds := (errNs.drop 6).map .str) (AV.cons EV.str (AV.cons EV.str (AV.cons EV.str (AV.cons EV.str (AV.cons EV.str (AV.cons EV.str AV.nil))))))).ev (by exact (show 6 + 6 ≤ sizeLine by decide))) scLErr.nd rfl (Or.inl rfl) ?_
      refine ST.ifYes (WV.tv (WV.orP (tLt (nm 4) EV.int) (WV.or1 (tEq (nm 4) EV.int)))) (by decide +kernel) ?_
      exact ST.retP (EVF.lst (ds := toldO 4 tt) (AV.cons (ixL (nm 5) (nm 4) rfl) (AV.cons (EV.reprAnyW T2 hgd hr hpn (EV.excF M no (nm 0) rfl) hx) AV.nil))).ev rfl
    · refine ST.set (i := 4) (EV.idx (j := 6) (z := .bool true) (nm 1) EV.bl rfl rfl rfl rfl (idx_no (by decide +kernel))) scLErr.nd rfl (Or.inl rfl) ?_
      refine ST.ifNo (tNeD (by omega) (nm 2) (EVF.lst (ds := [.bool (decide ((6 : Int) < 7)), .bool (eqS (.int 6) (.int 7)), .bool (decide ((7 : Int) < 6))]) (AV.cons (cLt (nm 4) EV.int) (AV.cons (cEq (nm 4) EV.int) (AV.cons (cGt (nm 4) EV.int) AV.nil)))).ev (by decide +kernel) (by decide +kernel)) (by decide +kernel) ?_
      refine ST.set (i := 5) (EVF.lst (ds := (errNs.take 6).map .str) (AV.cons EV.str (AV.cons EV.str (AV.cons EV.str (AV.cons EV.str (AV.cons EV.str (AV.cons EV.str AV.nil))))))).ev scLErr.nd rfl (Or.inl rfl) ?_
      refine ST.set (i := 5) (oCat (nm 5) (EVF.lst (ds := (errNs.drop 6).map .str) (AV.cons EV.str (AV.cons EV.str (AV.cons EV.str (AV.cons EV.str (AV.cons EV.str (AV.cons EV.str AV.nil))))))).ev (by exact (show 6 + 6 ≤ sizeLine by decide))) scLErr.nd rfl (Or.inl rfl) ?_
      refine ST.ifNo (WV.tv (WV.orP (tLt (nm 4) EV.int) (WV.or1 (tEq (nm 4) EV.int)))) (by decide +kernel) ?_
      refine ST.ifYes (tLt (nm 4) EV.int) (by decide +kernel) ?_
      exact ST.retP (EVF.lst (ds := toldO 6 tt) (AV.cons (ixL (nm 5) (nm 4) rfl) (AV.cons (EV.reprAnyW T2 hgd hr hpn (EV.excF M no (nm 0) rfl) hx) AV.nil))).ev rfl
    · refine ST.set (i := 4) (EV.idx (j := 8) (z := .bool true) (nm 1) EV.bl rfl rfl rfl rfl (idx_no (by decide +kernel))) scLErr.nd rfl (Or.inl rfl) ?_
      refine ST.ifNo (tNeD (by omega) (nm 2) (EVF.lst (ds := [.bool (decide ((8 : Int) < 7)), .bool (eqS (.int 8) (.int 7)), .bool (decide ((7 : Int) < 8))]) (AV.cons (cLt (nm 4) EV.int) (AV.cons (cEq (nm 4) EV.int) (AV.cons (cGt (nm 4) EV.int) AV.nil)))).ev (by decide +kernel) (by decide +kernel)) (by decide +kernel) ?_
      refine ST.set (i := 5) (EVF.lst (ds := (errNs.take 6).map .str) (AV.cons EV.str (AV.cons EV.str (AV.cons EV.str (AV.cons EV.str (AV.cons EV.str (AV.cons EV.str AV.nil))))))).ev scLErr.nd rfl (Or.inl rfl) ?_
      refine ST.set (i := 5) (oCat (nm 5) (EVF.lst (ds := (errNs.drop 6).map .str) (AV.cons EV.str (AV.cons EV.str (AV.cons EV.str (AV.cons EV.str (AV.cons EV.str (AV.cons EV.str AV.nil))))))).ev (by exact (show 6 + 6 ≤ sizeLine by decide))) scLErr.nd rfl (Or.inl rfl) ?_
      refine ST.ifNo (WV.tv (WV.orP (tLt (nm 4) EV.int) (WV.or1 (tEq (nm 4) EV.int)))) (by decide +kernel) ?_
      refine ST.ifNo (tLt (nm 4) EV.int) (by decide +kernel) ?_
      refine ST.ifYes (tEq (nm 4) EV.int) (by decide +kernel) ?_
      exact ST.retP (EVF.lst (ds := toldO 8 tt) (AV.cons (ixL (nm 5) (nm 4) rfl) (AV.cons (EV.reprAnyW T2 hgd hr hpn (EV.excF M no (nm 0) rfl) hx) AV.nil))).ev rfl
  · have hw : w0.cut μ.length = w0 := by
      show (⟨w0.α.take μ.length, w0.ξ⟩ : Wd) = w0
      rw [← m.len, List.take_length]
    match oo, ho with
    | .ret r2 μ2, ho =>
      obtain ⟨rfl, rfl⟩ := ho
      intro v H' m' f' hv'
      rw [hw] at m' hv'
      exact q v H' m' f' hv'
end
end J
namespace J
open PySem PySem.Spec
open PyProof.Rows L2
structure ExE0 (X : Cx) (D : Addr) (a : Addr) : Prop where
  cls : ExcC X.K D
  pin : ∃ oe : Obj, (a, oe) ∈ X.pn ∧ Zc (.ref D) none oe ∧ ∃ vs, oe.data = .fields vs
section
variable {X : Cx} {ρ : REnv} {μ μ1 : Sto} {a D : Addr} {o : Expr} {n : Str} {cv : Value} {b : Bool} {pos p p2 : Pos}
theorem call_isP0 (M : ExE0 X D a) : CallR X (.builtin "isinstance") (fun xs H Q => ∃ (c : V) (cv : Value) (b : Bool), xs = [.ref a, c] ∧ (∀ u, RelV c u → u = cv) ∧ PySem.W.kitOne X.K (.ref D) cv = some b ∧ Q (.bl b) H) := by
  intro pins s0 σ H xs us Q I r hh
  obtain ⟨c, cv, b, rfl, hcv, hk, hq⟩ := hh
  obtain ⟨u1, u2, rfl, r1, r2⟩ := vals2 r
  obtain rfl : u1 = Value.ref a := r1
  obtain rfl := hcv _ r2
  obtain ⟨oe, hp, hz, vs, hd⟩ := M.pin
  have C := M.cls
  obtain ⟨hget, _⟩ := I.pin (a, oe) (List.mem_append_left _ hp)
  have J0 : PySem.W.InstAt s0.heap a oe D none := ⟨hget, hz.1, by unfold PySem.W.notCls; rw [hd] <;> rfl, by rw [hz.2]; trivial⟩
  have hcl : (PySem.W.clsIn X.K D).isSome = true := by
    obtain ⟨cd, hc, _⟩ := PySem.W.any_some C.hd
    rw [hc]
    rfl
  exact PySem.W.kia_one (PySem.W.kitx_exc hcl C.hg C.hk C.hs C.ha C.hn C.ht C.hm) I.kIn J0 hk (fun z => nomatch z) fun tk => ⟨.bl b, H, I.kept (t' := tk) fun _ _ z => z, rfl, hq⟩
theorem EV.isE0 (M : ExE0 X D a) (T : X.mg "isinstance" = none) (N : ClsAt X.mg n cv) (hk : PySem.W.kitOne X.K (.ref D) cv = some b) (ho : EV X o ρ μ (.raw (.ref a)) μ1) (hg : Gl X "isinstance" := by rfl) (hgT : Gl X n := by rfl)
    (he : starEach [o, .Name n p2] X.env = (false, eval o X.env) :: starEach [.Name n p2] X.env := by rfl) (he2 : starEach [.Name n p2] X.env = (false, eval (.Name n p2) X.env) :: starEach [] X.env := by rfl) (hpl : (backTo pos (starEach [.Name n p2] X.env)).any (·.1) = false := by rfl) : EV X (.Call (.Name "isinstance" p) [o, .Name n p2] [] pos) ρ μ (Bb b) μ1 := by
  intro w σ H m s Q q
  obtain ⟨hdb, ⟨c, rfl, hm⟩ | ⟨c, rfl, hm, hv, hn⟩⟩ := N
  · refine ⟨_, pe_callB (call_isP0 M) hg T (by decide +kernel) (pa_cons (p_ex (e := o)) (pa_cons (pe_glob (v := .ref c) hgT hm rfl hdb) pa_nil he2) he) (by decide) (by decide) he hpl, ?_⟩
    refine ho w σ H m s _ fun v H1 m1 f1 h1 => ?_
    exact ⟨.ref c, .ref c, b, by rw [show v = V.ref a from h1], fun u hu => hu, hk, q _ H1 m1 f1 (Dq.bl b)⟩
  · refine ⟨_, pe_callB (call_isP0 M) hg T (by decide +kernel) (pa_cons (p_ex (e := o)) (pa_cons (pe_bltn (v := .ty c) hgT hm hv rfl hn hdb) pa_nil he2) he) (by decide) (by decide) he hpl, ?_⟩
    refine ho w σ H m s _ fun v H1 m1 f1 h1 => ?_
    exact ⟨.ty c, .type c, b, by rw [show v = V.ref a from h1], fun u hu => hu, hk, q _ H1 m1 f1 (Dq.bl b)⟩
end
theorem FnE.or {P : Program} {w : World} {K : PySem.W.Frag} {mg : Str → Option Value} {base : Heap} {k : Nat} {f : Addr} {fd : FuncData} {x : Str} {sp sp2 : Addr × Obj → Hp → VK → Prop} (A : FnE P w K mg base k f fd x sp) (B : FnE P w K mg base k f fd x sp2) : FnE P w K mg base k f fd x (fun p G R => sp p G R ∨ sp2 p G R) :=
  ⟨fun b st t G R p h1 h2 h3 h4 h5 h6 => h6.elim (fun z => A.go b st t G R p h1 h2 h3 h4 h5 z) fun z => B.go b st t G R p h1 h2 h3 h4 h5 z⟩
end J
namespace J
open PySem PySem.Spec
open PyProof.Rows L2
noncomputable abbrev Err0At (n : Nat) : Prop := n = 9 ∨ n = 10
structure Err0 (K : PySem.W.Frag) (mg : Str → Option Value) (D : Addr) (n : Nat) : Prop where
  cls : ExcC K D
  xfc : XfC K D
  kit : ∀ j, j < 12 → ∃ T, mg (errName j) = some (.ref T) ∧ PySem.W.kitOne K (.ref D) (.ref T) = some (j == n)
  bas : ∀ j, j < 3 → ∃ T, mg (baseNs.getD j Str.empty) = some (.ref T) ∧ PySem.W.kitOne K (.ref D) (.ref T) = some (errSort n j)
  own : ∀ j, j < 3 → mg (ownNs.getD j "") = none ∧ PySem.W.kitOne K (.ref D) (.type (ownNs.getD j "")) = some (errSort n j)
  at_ : Err0At n
noncomputable def spErr0 (K : PySem.W.Frag) (mg : Str → Option Value) (base : Heap) : Addr × Obj → Hp → VK → Prop := fun p G R => ∃ (w : Wd) (μ : Sto) (D : Addr) (od : Option Addr) (n : Nat), Mem K G w μ ∧ Zc (.ref D) od p.2 ∧ Xd G w od [] ∧ (∃ vs, p.2.data = .fields vs) ∧ Err0 K mg D n ∧
  ∀ v H', Mem K H' w μ → Fr w.α G H' → Val K H' w v (Ls [.str (errName n), .str ""]) → R v H'
noncomputable def spErrA (K : PySem.W.Frag) (mg : Str → Option Value) (base : Heap) : Addr × Obj → Hp → VK → Prop := fun p G R => spErr K mg base p G R ∨ spErr0 K mg base p G R
section
variable {w : World} {P : Program} {K : PySem.W.Frag} {base : Heap} {mg : Str → Option Value}
theorem walk0 {fa : Addr} {cdv : Value} {B : Around} {st : List Env} {t : Shared} {G : Hp} {p : Addr × Obj} {D : Addr} {n : Nat} {μ : Sto} (r0 : Ent) (C : Err0 K mg D n) (hu : (errX P w K mg base fa cdv B st t G p).A.units + 100 < cLine) (ie : ∀ {ρ : REnv} {n : Str} {c : Addr} {b : Bool} {pos p0 p1 p2}, ρ[0]? = some (some r0) → mg n = some (.ref c) → PySem.W.kitOne K (.ref D) (.ref c) = some b → Gl (errX P w K mg base fa cdv B st t G p) n → (n == ("__debug__" : Str)) = false → EV (errX P w K mg base fa cdv B st t G p) (.Call (.Name "isinstance" p0) [.Name "_law_e" p1, .Name n p2] [] pos) ρ μ (Bb b) μ)
    (ib : ∀ {ρ : REnv} {n : Str} {c : String} {b : Bool} {pos p0 p1 p2}, ρ[0]? = some (some r0) → mg n = none → bootBuiltins n = some (.type c) → n ≠ "__name__" → PySem.W.kitOne K (.ref D) (.type c) = some b → Gl (errX P w K mg base fa cdv B st t G p) n → (n == ("__debug__" : Str)) = false → EV (errX P w K mg base fa cdv B st t G p) (.Call (.Name "isinstance" p0) [.Name "_law_e" p1, .Name n p2] [] pos) ρ μ (Bb b) μ) :
    ST (errX P w K mg base fa cdv B st t G p) W0 μ.length (defBody sLError) [some r0, none, none, none, none, none] μ (PostR (Ls [.str (errName n), .str ""]) μ) := by
  obtain ⟨T0, a0, k0⟩ := C.kit 0 (by decide)
  obtain ⟨T1, a1, k1⟩ := C.kit 1 (by decide)
  obtain ⟨T2', a2, k2⟩ := C.kit 2 (by decide)
  obtain ⟨T3, a3, k3⟩ := C.kit 3 (by decide)
  obtain ⟨T4, a4, k4⟩ := C.kit 4 (by decide)
  obtain ⟨T5, a5, k5⟩ := C.kit 5 (by decide)
  obtain ⟨T6, a6, k6⟩ := C.kit 6 (by decide)
  obtain ⟨T7, a7, k7⟩ := C.kit 7 (by decide)
  obtain ⟨T8, a8, k8⟩ := C.kit 8 (by decide)
  obtain ⟨T9, a9, k9⟩ := C.kit 9 (by decide)
  obtain ⟨T10, a10, k10⟩ := C.kit 10 (by decide)
  obtain ⟨T11, a11, k11⟩ := C.kit 11 (by decide)
  obtain ⟨U0, b0, l0⟩ := C.bas 0 (by decide)
  obtain ⟨U1, b1, l1⟩ := C.bas 1 (by decide)
  obtain ⟨U2, b2, l2⟩ := C.bas 2 (by decide)
  obtain ⟨c0, o0⟩ := C.own 0 (by decide)
  obtain ⟨c1, o1⟩ := C.own 1 (by decide)
  obtain ⟨c2, o2⟩ := C.own 2 (by decide)
  refine ST.set (i := 1) (EVF.lst (ds := [.bool (0 == n), .bool (1 == n), .bool (2 == n)]) (AV.cons (ie rfl a0 k0 rfl rfl) (AV.cons (ie rfl a1 k1 rfl rfl) (AV.cons (ie rfl a2 k2 rfl rfl) AV.nil)))).ev scLErr.nd rfl (Or.inl rfl) ?_
  refine ST.set (i := 1) (oCat (nm 1) (EVF.lst (ds := [.bool (3 == n), .bool (4 == n), .bool (5 == n)]) (AV.cons (ie rfl a3 k3 rfl rfl) (AV.cons (ie rfl a4 k4 rfl rfl) (AV.cons (ie rfl a5 k5 rfl rfl) AV.nil)))).ev (by exact (show 3 + 3 ≤ sizeLine by decide))) scLErr.nd rfl (Or.inl rfl) ?_
  refine ST.set (i := 1) (oCat (nm 1) (EVF.lst (ds := [.bool (6 == n), .bool (7 == n), .bool (8 == n)]) (AV.cons (ie rfl a6 k6 rfl rfl) (AV.cons (ie rfl a7 k7 rfl rfl) (AV.cons (ie rfl a8 k8 rfl rfl) AV.nil)))).ev (by exact (show 6 + 3 ≤ sizeLine by decide))) scLErr.nd rfl (Or.inl rfl) ?_
  refine ST.set (i := 1) (oCat (nm 1) (EVF.lst (ds := [.bool (9 == n), .bool (10 == n), .bool (11 == n)]) (AV.cons (ie rfl a9 k9 rfl rfl) (AV.cons (ie rfl a10 k10 rfl rfl) (AV.cons (ie rfl a11 k11 rfl rfl) AV.nil)))).ev (by exact (show 9 + 3 ≤ sizeLine by decide))) scLErr.nd rfl (Or.inl rfl) ?_
  refine ST.set (i := 2) (EVF.lst (ds := [.bool (errSort n 0), .bool (errSort n 1), .bool (errSort n 2)]) (AV.cons (ie rfl b0 l0 rfl rfl) (AV.cons (ie rfl b1 l1 rfl rfl) (AV.cons (ie rfl b2 l2 rfl rfl) AV.nil)))).ev scLErr.nd rfl (Or.inl rfl) ?_
  refine ST.set (i := 3) (EVF.lst (ds := [.bool (errSort n 0), .bool (errSort n 1), .bool (errSort n 2)]) (AV.cons (ib rfl c0 (by decide +kernel) (by decide) o0 rfl rfl) (AV.cons (ib rfl c1 (by decide +kernel) (by decide) o1 rfl rfl) (AV.cons (ib rfl c2 (by decide +kernel) (by decide) o2 rfl rfl) AV.nil)))).ev scLErr.nd rfl (Or.inl rfl) ?_
  rcases C.at_ with rfl | rfl
  all_goals
    refine ST.ifNo (WV.tv (WV.orF (tNe (EV.cnt (nm 1) EV.bl rfl rfl) EV.int) (WV.or1 (tNeD (by omega) (nm 3) (nm 2) (by decide +kernel) (by decide +kernel))) (by decide +kernel))) (by decide +kernel) ?_
  · refine ST.set (i := 4) (EV.idx (j := 9) (z := .bool true) (nm 1) EV.bl rfl rfl rfl rfl (idx_no (by decide +kernel))) scLErr.nd rfl (Or.inl rfl) ?_
    refine ST.ifNo (tNeD (by omega) (nm 2) (EVF.lst (ds := [.bool (decide ((9 : Int) < 7)), .bool (eqS (.int 9) (.int 7)), .bool (decide ((7 : Int) < 9))]) (AV.cons (cLt (nm 4) EV.int) (AV.cons (cEq (nm 4) EV.int) (AV.cons (cGt (nm 4) EV.int) AV.nil)))).ev (by decide +kernel) (by decide +kernel)) (by decide +kernel) ?_
    refine ST.set (i := 5) (EVF.lst (ds := (errNs.take 6).map .str) (AV.cons EV.str (AV.cons EV.str (AV.cons EV.str (AV.cons EV.str (AV.cons EV.str (AV.cons EV.str AV.nil))))))).ev scLErr.nd rfl (Or.inl rfl) ?_
    refine ST.set (i := 5) (oCat (nm 5) (EVF.lst (ds := (errNs.drop 6).map .str) (AV.cons EV.str (AV.cons EV.str (AV.cons EV.str (AV.cons EV.str (AV.cons EV.str (AV.cons EV.str AV.nil))))))).ev (by exact (show 6 + 6 ≤ sizeLine by decide))) scLErr.nd rfl (Or.inl rfl) ?_
    refine ST.ifNo (WV.tv (WV.orP (tLt (nm 4) EV.int) (WV.or1 (tEq (nm 4) EV.int)))) (by decide +kernel) ?_
    refine ST.ifNo (tLt (nm 4) EV.int) (by decide +kernel) ?_
    refine ST.ifNo (tEq (nm 4) EV.int) (by decide +kernel) ?_
    exact ST.retP (EVF.lst (ds := [.str (errName 9), .str ""]) (AV.cons (ixL (nm 5) (nm 4) rfl) (AV.cons (EV.ifx (k := false) (TV.eq (tEq (nm 4) EV.int) (by decide +kernel)) (fun z => by cases z) (fun _ => EV.str)) AV.nil))).ev rfl
  · refine ST.set (i := 4) (EV.idx (j := 10) (z := .bool true) (nm 1) EV.bl rfl rfl rfl rfl (idx_no (by decide +kernel))) scLErr.nd rfl (Or.inl rfl) ?_
    refine ST.ifNo (tNeD (by omega) (nm 2) (EVF.lst (ds := [.bool (decide ((10 : Int) < 7)), .bool (eqS (.int 10) (.int 7)), .bool (decide ((7 : Int) < 10))]) (AV.cons (cLt (nm 4) EV.int) (AV.cons (cEq (nm 4) EV.int) (AV.cons (cGt (nm 4) EV.int) AV.nil)))).ev (by decide +kernel) (by decide +kernel)) (by decide +kernel) ?_
    refine ST.set (i := 5) (EVF.lst (ds := (errNs.take 6).map .str) (AV.cons EV.str (AV.cons EV.str (AV.cons EV.str (AV.cons EV.str (AV.cons EV.str (AV.cons EV.str AV.nil))))))).ev scLErr.nd rfl (Or.inl rfl) ?_
    refine ST.set (i := 5) (oCat (nm 5) (EVF.lst (ds := (errNs.drop 6).map .str) (AV.cons EV.str (AV.cons EV.str (AV.cons EV.str (AV.cons EV.str (AV.cons EV.str (AV.cons EV.str AV.nil))))))).ev (by exact (show 6 + 6 ≤ sizeLine by decide))) scLErr.nd rfl (Or.inl rfl) ?_
    refine ST.ifNo (WV.tv (WV.orP (tLt (nm 4) EV.int) (WV.or1 (tEq (nm 4) EV.int)))) (by decide +kernel) ?_
    refine ST.ifNo (tLt (nm 4) EV.int) (by decide +kernel) ?_
    refine ST.ifNo (tEq (nm 4) EV.int) (by decide +kernel) ?_
    exact ST.retP (EVF.lst (ds := [.str (errName 10), .str ""]) (AV.cons (ixL (nm 5) (nm 4) rfl) (AV.cons (EV.ifx (k := false) (TV.eq (tEq (nm 4) EV.int) (by decide +kernel)) (fun z => by cases z) (fun _ => EV.str)) AV.nil))).ev rfl
theorem okErr0 {fa : Addr} {fd : FuncData} (T : mg "isinstance" = none) (F : Fun K "_law_error" "_law_error" sLError fa fd) : FnE P w K mg base 2 fa fd "_law_e" (spErr0 K mg base) := by
  refine funE F scLErr fun cdv B st t G R p hgd hr h => ?_
  obtain ⟨w0, μ, D, od, n, m, hz, hxd, hf, C, q⟩ := h
  have hu : (errX P w K mg base fa cdv B st t G p).A.units + 100 < cLine := by
    refine Nat.lt_of_le_of_lt ?_ hr.un
    exact Nat.add_le_add_left (show 100 ≤ 16 * 1 + 200 by decide) _
  have fin : ∀ oo, PostR (Ls [.str (errName n), .str ""]) μ oo → Fin (errX P w K mg base fa cdv B st t G p) W0 μ.length w0 G { nx := fun _ G' => R .non G', rt := R } oo := fun oo ho => by
    have hw : w0.cut μ.length = w0 := by
      show (⟨w0.α.take μ.length, w0.ξ⟩ : Wd) = w0
      rw [← m.len, List.take_length]
    match oo, ho with
    | .ret r2 μ2, ho =>
      obtain ⟨rfl, rfl⟩ := ho
      intro v H' m' f' hv'
      rw [hw] at m' hv'
      exact q v H' m' f' hv'
  cases od with
  | none =>
    have M : ExE0 (errX P w K mg base fa cdv B st t G p) D p.1 := ⟨C.cls, p.2, List.mem_cons_self, hz, hf⟩
    exact walk0 (.raw (.ref p.1)) C hu (fun h0 h1 h2 h3 h4 => EV.isE0 M T ⟨h4, .inl ⟨_, rfl, h1⟩⟩ h2 (nm 0 (h := h0)) rfl h3) (fun h0 h1 hb hn h2 h3 h4 => EV.isE0 M T ⟨h4, .inr ⟨_, rfl, h1, hb, hn⟩⟩ h2 (nm 0 (h := h0)) rfl h3) w0 _ G _ (Nat.le_of_eq m.len.symm) m (sl_start (N := nLE) (rs := [.raw (.ref p.1)]) (.cons (r := .raw (.ref p.1)) rfl .nil) (show 1 ≤ 6 by decide)) fin
  | some d =>
    obtain ⟨ws, e, nd, hn, hd⟩ := hxd
    have hv : Val K G w0 (.ref p.1) (.exc p.1 d []) := ⟨rfl, ws, dl_of nd e, hn, hd⟩
    have M : ExE (errX P w K mg base fa cdv B st t G p) D p.1 d := ⟨C.cls, C.xfc, p.2, List.mem_cons_self, hz, hf⟩
    exact walk0 (.exc p.1 d []) C hu (fun h0 h1 h2 h3 h4 => EV.isE M T ⟨h4, .inl ⟨_, rfl, h1⟩⟩ h2 (nm 0 (h := h0)) rfl h3) (fun h0 h1 hb hn h2 h3 h4 => EV.isE M T ⟨h4, .inr ⟨_, rfl, h1, hb, hn⟩⟩ h2 (nm 0 (h := h0)) rfl h3) w0 _ G _ (Nat.le_of_eq m.len.symm) m (sl_start (N := nLE) (rs := [.exc p.1 d []]) (.cons hv .nil) (show 1 ≤ 6 by decide)) fin
end
end J
namespace J
open PySem PySem.Spec
open PyProof.Rows L2
theorem Mem.extN {K : PySem.W.Frag} {H H1 : Hp} {w : Wd} {μ : Sto} (m : Mem K H w μ) (e : LamX.ExtN H H1) (t : LamX.Tabs (tabsK K) H1) : Mem K H1 w μ ∧ Fr w.α H H1 := by
  have f : Fr w.α H H1 := fun b o h _ nt => e b o h nt
  refine ⟨⟨m.nd, m.len, fun k a xs h1 h2 => ?_, m.out, fun b hb => (m.ext b hb).elim fun o h => ⟨o, e b o h.1 h.2.1, h.2⟩, t⟩, f⟩
  obtain ⟨vs, h, hd⟩ := m.cell k a xs h1 h2
  exact ⟨vs, e _ _ h (fun q z => by cases z), dqAll_mono f.all _ _ hd⟩
noncomputable abbrev nCau : List Str := ["_law_act", "_law_back", "_law_e"]
theorem scCau : FnScope nCau ["_law_act"] (defScope sLCaught) := ⟨rfl, rfl, rfl, by decide +kernel, rfl, by decide +kernel, by decide +kernel⟩
structure Tel (P : Program) (w : World) (K : PySem.W.Frag) (mg : Str → Option Value) (base : Heap) : Prop where
  ex : ∃ f fd, FnE P w K mg base 2 f fd "_law_e" (spErrA K mg base) ∧ mg "_law_error" = some (.ref f) ∧ PySem.W.keepIn K (.ref f) = true ∧ Binds K fd ["_law_e"] []
section
variable {X : Cx} {ρ : REnv} {μ : Sto} {k : Nat} {c1 c2 c3 : Addr}
theorem xd_some {H : Hp} {w : Wd} {od : Option Addr} {f : Str} {x : PyData} (h : Xd H w od [(f, x)]) : ∃ d, od = some d ∧ ∃ ws : List (Str × V), dl H w.all d = some (.xd ws) ∧ ws.map (·.1) = [f] ∧ DqAll (dl H w.all) (ws.map (·.2)) [x] := by
  cases od with
  | none => cases h
  | some d =>
    obtain ⟨ws, e, nd, hn, hd⟩ := h
    exact ⟨d, rfl, ws, dl_of nd e, hn, hd⟩
noncomputable abbrev catX (X : Cx) (g : Addr) (cdg : Value) (s : Shared) (H : Hp) : Cx := (cxOf C8.CX0 X.prog X.w X.K X.mg X.base nCau "_law_caught" (defScope sLCaught) g cdg X.A X.stack s H C8.E0).nox
theorem tabs_mem {K : PySem.W.Frag} {x : Str} {c P : Addr} (h : lamTab K x = some (c, P)) (hx : x ∈ lamDefs) : (P, x ++ ".<locals>." ++ "<lambda>") ∈ tabsK K := List.mem_filterMap.mpr ⟨x, hx, by rw [h]; rfl⟩
end
end J
namespace J
open PySem PySem.Spec
open PyProof.Rows L2
inductive CaughtO (P : Program) (w : World) (K : PySem.W.Frag) (mg : Str → Option Value) (base : Heap) (cs : List Value) (μ : Sto) : Res → List PyData → Prop where
  | told {d : PyData} {t : Str} (h : ShoO P w K mg base d t) : CaughtO P w K mg base cs μ (.ok (.dat d) μ) [.str "told", .str t]
  | err {D : Addr} {n : Nat} {f : Str} {x : PyData} {t : Str} (C : ErrC K mg D n f) (h : ShoO P w K mg base x t) (hm : PySem.W.exmAny K (.ref D) cs = some true) : CaughtO P w K mg base cs μ (.rse D [(f, x)] μ) (toldO n t)
noncomputable def TTcO (P : Program) (wo : World) (K : PySem.W.Frag) (mg : Str → Option Value) (base : Heap) (cs : List Value) : (XK → Hp → VK → Prop) → Hp → VK → Prop := fun tl H Q => ∃ (w : Wd) (μ : Sto) (o : Res) (xs : List PyData), Mem K H w μ ∧ CaughtO P wo K mg base cs μ o xs ∧ (∀ (E : XK) (Q' : VK), EndX K w H Q' E o → tl E H Q') ∧ ∀ v H', Mem K H' w μ → Fr w.α H H' → Val K H' w v (Ls xs) → Q v H'
structure TelO (P : Program) (w : World) (K : PySem.W.Frag) (mg : Str → Option Value) (base : Heap) : Prop where
  ex : ∃ f fd, FnE P w K mg base 3 f fd "_law_e" (spErrO P w K mg base) ∧ mg "_law_error" = some (.ref f) ∧ PySem.W.keepIn K (.ref f) = true ∧ Binds K fd ["_law_e"] []
section
variable {X : Cx} {ρ : REnv} {μ : Sto} {k : Nat} {c1 c2 c3 : Addr}
theorem caught_givesO {g : Addr} {cdg : Value} {q : Str} (T2 : X.mg "repr" = none) (Te : TelO X.prog X.w X.K X.mg X.base) (m1 : X.mg "NotRight" = some (.ref c1)) (m2 : X.mg "NotThere" = some (.ref c2)) (m3 : X.mg "CannotBe" = some (.ref c3)) (hgd : X.A.guards = some []) (hr : Room 4 X.A) :
    LamX.GivesTo X nCau "_law_caught" (defScope sLCaught) g cdg (defBody sLCaught) "_law_act" q (TTcO X.prog X.w X.K X.mg X.base [.ref c1, .ref c2, .ref c3]) := by
  intro f c' s H Q tl act hc h
  obtain ⟨w, μ, o, xs, m, hcg, htl, hq⟩ := h
  obtain ⟨fE, fdE, FE, mE, kE, bE⟩ := Te.ex
  have hrZ : Room 3 (X.A.deeper (envOfC "_law_caught" (defScope sLCaught) s.heap.objs.size g cdg)) := hr.deeper _
  have sl0 : Sl X.K H w (L2.start nCau [.ref f]) [some (.raw (.ref f)), none, none] := sl_start (N := nCau) (rs := [.raw (.ref f)]) (.cons (r := .raw (.ref f)) rfl .nil) (show 1 ≤ 3 by decide)
  refine ⟨_, pss_cons (ps_try3 (X := catX X g cdg s H) (i := 2) (n := "_law_e") (c1 := c1) (c2 := c2) (c3 := c3)
      (tb := fun W D σ H => ∃ Ech : XK, (∀ cls d σ' H', Ech cls d H' → W cls d σ' H') ∧ σ[0]? = some (some (.ref f)) ∧ H c' = some (LamX.CodeO c' q) ∧ tl Ech H fun v H1 => D.nx (σ.set 1 (some v)) H1)
      (ts := fun a cls d D σ H => (3 ≤ σ.length → σ[2]? = some (some (.ref a))) ∧ ∀ oe, Zc cls d oe → (∃ vs, oe.data = .fields vs) → spErrO X.prog X.w X.K X.mg X.base (a, oe) H D.rt)
      rfl rfl scCau.nd rfl rfl rfl m1 (by decide) rfl m2 (by decide) rfl m3 (by decide) (fun W pn xe tk _ => ?_) (fun a oe cls d pn hz hf => ?_)) (pss_one (ps_ret p_ex)), ?_⟩
  · refine ⟨fun pins s' σ H' D I h' => ?_⟩
    obtain ⟨Ech, hW, h1, h2, h3⟩ := h'
    have hp := fun p1 p2 => act W pn xe Ech p1 p2 tk hW
    exact (pss_one (ps_set (i := 1) (x := "_law_back") scCau.nd rfl (Or.inl rfl) (hp _ _) rfl (Or.inr rfl))).run pins s' σ H' D I ⟨h1, h2, h3⟩
  · refine ⟨fun pins s' σ H' D I h' => ?_⟩
    obtain ⟨h1, h2⟩ := h'
    have hlen : σ.length = 3 := I.len
    have hp := fun p p2 pos => pe_callE (p := p) (p2 := p2) (pos := pos) (X := catX X g cdg s H) (a := a) (oe := oe) (pn := pn) (i := 2) (y := "_law_e") (n := "_law_error") FE hgd (L2H.roomH_of (hrZ.mono (by decide))) rfl mE kE bE rfl (Or.inl rfl)
    exact (pss_one (ps_ret (hp _ _ _))).run pins s' σ H' D I ⟨h1 (by omega), h2 oe hz hf⟩
  · cases hcg with
    | @told d td hd =>
      refine ⟨fun _ _ _ => False, (fun _ _ _ _ z => z.elim), rfl, hc, htl _ _ ?_⟩
      intro v H1 mm ff hv
      have hu : (catX X g cdg s H).A.units + 100 < cLine := Nat.lt_of_le_of_lt (Nat.add_le_add_left (show 100 ≤ 16 * 3 + 200 by decide) _) hrZ.un
      refine use_ev (X := catX X g cdg s H) (μ := μ) (EVF.lst (ds := [.str "told", .str td]) (AV.cons EV.str (AV.cons (EV.reprAny (X := catX X g cdg s H) T2 hgd (hrZ.mono (by decide)) (nm 1) hd) AV.nil))).ev mm ((sl0.fr ff).set (i := 1) hv) fun u H2 m2' f2 h2 => hq u H2 m2' (ff.trans f2) h2
    | @err D n fl x tx C hx hm =>
      refine ⟨fun cls od H' => cls = .ref D ∧ Mem X.K H' w μ ∧ Fr w.α H H' ∧ Xd H' w od [(fl, x)], ?_, rfl, hc, htl _ _ fun od H' mm ff hxd => ⟨rfl, mm, ff, hxd⟩⟩
      rintro cls od σ' H' ⟨rfl, mm, ff, hxd⟩
      obtain ⟨dd, rfl, ws, e, hn, hd⟩ := xd_some hxd
      refine ⟨hm, fun a na => ⟨fun hl => ?_, fun oe hz hf => ⟨w, μ, D, dd, n, fl, x, tx, mm, ⟨rfl, ws, e, hn, hd⟩, hz, hf, C, hx, fun v H2 m2' f2 h2 => hq v H2 m2' (ff.trans f2) h2⟩⟩⟩
      have hl' : 2 < σ'.length := by
        have hl2 : 3 ≤ σ'.length := by simpa using hl
        omega
      simp [hl']
theorem EV.caughtO {x : Str} {cdv : Value} {params : Arguments} {body : Expr} {scope : Scope} {o : Res} {xs : List PyData} {p lpos pos : Pos} (L : LamD X.K X.mg X.base x cdv) (hq : X.env.qual = x ++ ".<locals>.") (hcode : X.env.code = cdv) (D : Df X.K X.mg "_law_caught" sLCaught)
    (T2 : X.mg "repr" = none) (Te : TelO X.prog X.w X.K X.mg X.base) (m1 : X.mg "NotRight" = some (.ref c1)) (m2 : X.mg "NotThere" = some (.ref c2)) (m3 : X.mg "CannotBe" = some (.ref c3)) (hgd : X.A.guards = some []) (hr : Room (k + 2) X.A) (hk : 2 ≤ k) (hC : CaughtO X.prog X.w X.K X.mg X.base [.ref c1, .ref c2, .ref c3] μ o xs)
    (hb : ∀ (A : Around) (outer : List Env) (s : Shared) (H : Hp) (E : XK) (f c' : Addr), Room k (A.deeper (LamX.lamEnv X scope s.heap.objs.size f c')) → EVR (LamX.lamCx X A outer s H E scope f c') (fun cls d _ H => E cls d H) body ρ μ o)
    (hg : Gl X "_law_caught" := by rfl) (hL : LamX.lamSB X.env.scope scope = true := by decide +kernel) (hdef : defaultsOf params X.env = ([], []) := by rfl) (hbind : ∀ (q : Str) (cl : List (Str × Addr)) (pm cv ctv : Value), bindArgs (PySem.W.kla_fn "<lambda>" q params body scope cl pm cv ctv) ⟨[], []⟩ = pure [] := by exact fun _ _ _ _ _ => rfl) :
    EV X (.Call (.Name "_law_caught" p) [.Lambda params body scope lpos] [] pos) ρ μ (Ls xs) μ := by
  intro w σ H m s Q q
  obtain ⟨c, P, ht, rfl, TB, hx, hu⟩ := L.ex
  obtain ⟨g, fd, F, hm⟩ := D.ex
  have hbi := F.binds (fun _ _ _ _ _ _ us hl => len1 us hl fun _ => rfl) (ps := ["_law_act"])
  obtain ⟨oc, od, kV, doc, pm, an, cdg, ct, osl, rfl, lk, hcg⟩ := F.ex
  have hmem := tabs_mem ht hx
  rw [← hq] at hmem hu
  refine ⟨_, LamX.pe_lamcall (T := tabsK X.K) (TT := TTcO X.prog X.w X.K X.mg X.base [.ref c1, .ref c2, .ref c3]) (x := "_law_caught") (a := "_law_act") (Ng := nCau) (k := k) (t := fun E σ H Q => ∀ (A : Around) (outer : List Env) (s : Shared) (H0 : Hp) (f c' : Addr), Room k (A.deeper (LamX.lamEnv X scope s.heap.objs.size f c')) → EX (LamX.lamCx X A outer s H0 E scope f c') body σ H Q)
    hg hm F.kp lk hcg hbi scCau rfl (Or.inl rfl) (caught_givesO T2 Te m1 m2 m3 hgd (hr.mono (by omega))) TB hcode hmem hu hr (LamX.lamS_by hL) hdef hbind (fun A outer s0 H0 E f c' hr2 => ⟨fun pins s1 σ1 H1 Q1 I h => (p_ex (e := body)).run pins s1 σ1 H1 Q1 I (h A outer s0 H0 f c' hr2)⟩), ?_⟩
  refine ⟨m.tab, fun H1 eN T1 => ?_⟩
  obtain ⟨m1', f1⟩ := m.extN eN T1
  refine ⟨w, μ, o, xs, m1', hC, fun E Q' hE A outer s0 H0 f c' hr2 => hb A outer s0 H0 E f c' hr2 w σ H1 m1' (s.fr f1) Q' ?_, fun v H2 m2' f2 h2 => q v H2 m2' (f1.trans f2) h2⟩
  cases o with
  | ok r ν => exact hE
  | rse C fs ν => exact hE
end
end J
namespace J
open PySem PySem.Spec
open PyProof.Rows L2
noncomputable def FrX (w : Wd) (x : Addr) (H H1 : Hp) : Prop := ∀ b o, b ≠ x → H b = some o → b ∉ w.α → Nt o → H1 b = some o
noncomputable def InO (H : Hp) (w : Wd) (x dx C : Addr) (fs : List (Str × PyData)) : Prop := ∃ ws, H x = some (.ins C dx ws) ∧ ws.map (·.1) = fs.map (·.1) ∧ DqAll (dl H w.all) (ws.map (·.2)) (fs.map (·.2))
theorem putF_new {f : Str} {v : V} : ∀ {ws : List (Str × V)}, f ∉ ws.map (·.1) → putF f v ws = ws ++ [(f, v)]
  | [], _ => rfl
  | (g, y) :: ws, h => by
    have h1 : ¬ g = f := fun z => h (by rw [z]; exact List.mem_cons_self)
    show (if g = f then _ else _) = _
    rw [if_neg h1, putF_new fun z => h (List.mem_cons_of_mem _ z)]
    rfl
noncomputable def SI (X : Cx) (C : Addr) (sts : List Stmt) (ρ : REnv) (μ : Sto) (fs fsF : List (Str × PyData)) : Prop :=
  ∀ w0 x dx σ H (D : Ends), Mem X.K H (wk' w0 x) μ → Sl X.K H (wk' w0 x) σ ρ → σ[0]? = some (some (.ref x)) → InO H (wk' w0 x) x dx C fs →
    (∀ σ1 H1, Mem X.K H1 (wk' w0 x) μ → FrX w0 x H H1 → InO H1 (wk' w0 x) x dx C fsF → D.nx σ1 H1) → SX X sts D σ H
section
variable {X : Cx} {ρ : REnv} {μ : Sto} {e : Expr} {es : List Expr} {rest : List Stmt} {pos p0 p1 p2 p' : Pos} {r : Ent} {rs : List Ent} {d : PyData} {x f sn : Str} {C : Addr} {fs fsF : List (Str × PyData)}
theorem InO.fr {H H1 : Hp} {w : Wd} {x dx C : Addr} {fs : List (Str × PyData)} {μ : Sto} {K : PySem.W.Frag} (h : InO H (wk' w x) x dx C fs) (m : Mem K H (wk' w x) μ) (f : Fr (wk' w x).α H H1) : InO H1 (wk' w x) x dx C fs := by
  obtain ⟨ws, h1, h2, h3⟩ := h
  exact ⟨ws, f x _ h1 (m.out x List.mem_cons_self) (fun q z => by cases z), h2, dqAll_mono (Fr.all (w := wk' w x) f) _ _ h3⟩
theorem FrX.pre {w : Wd} {x : Addr} {H H1 H2 : Hp} (f : Fr w.α H H1) (g : FrX w x H1 H2) : FrX w x H H2 := fun b o n e nb nt => g b o n (f b o e nb nt) nb nt
theorem SI.nil : SI X C [] ρ μ fsF fsF := fun w0 x dx σ H D m s hs hI q => ⟨_, pss_nil, q σ H m (fun b o _ e _ _ => e) hI⟩
theorem SI.fld (h : EV X e ρ μ (.dat d) μ) (hself : PE X (.Name sn p1) (tVar 0)) (cl : Cls X.K C) (na : NoAttr X.K C f) (hf : f ∉ fs.map (·.1)) (hl : fs.length < 1000) (hr : SI X C rest ρ μ (fs ++ [(f, d)]) fsF) (hs : swapsWith e (some (.Attribute (.Name sn p1) f p2)) pos.line X.env = pure false := by rfl) : SI X C (.Assign [.Attribute (.Name sn p1) f p2] e pos :: rest) ρ μ fs fsF := by
  intro w0 x dx σ H D m s hs0 hI q
  refine ⟨_, pss_cons (ps_fld hself (p_ex (e := e)) hs) p_sx, ?_⟩
  refine h (wk' w0 x) σ H m s _ fun v H1 m1 f1 h1 => ?_
  obtain ⟨ws, i1, i2, i3⟩ := hI.fr m f1
  have hwl : ws.length = fs.length := by
    have := congrArg List.length i2
    rwa [List.length_map, List.length_map] at this
  refine ⟨.ref x, hs0, x, C, dx, ws, rfl, i1, cl, na, by omega, ?_⟩
  have g : Same (dl H1 (wk' w0 x).all) (dl (upd H1 x (.ins C dx (putF f v ws))) (wk' w0 x).all) := same_outs
  refine hr w0 x dx σ _ D m1.outs ((s.fr f1).same g) hs0 ⟨ws ++ [(f, v)], ?_, by rw [List.map_append, List.map_append, i2]; rfl, ?_⟩ fun σ1 H2 m2 f2 i4 => q σ1 H2 m2 (fun b o n eb nb nt => f2 b o n (by rw [upd_ne n]; exact f1 b o eb nb nt) nb nt) i4
  · rw [upd_same, putF_new (by rw [i2]; exact hf)]
  · rw [List.map_append, List.map_append]
    exact dqAll_append (dqAll_mono g _ _ i3) (.cons (dq_mono g _ _ h1) .nil)
end
end J
namespace J
open PySem PySem.Spec
open PyProof.Rows L2
noncomputable def pm {α : Type} (is : List Nat) (l : List α) : List α := is.filterMap fun i => l[i]?
end J
namespace J
open PySem PySem.Spec
open PyProof.Rows L2
theorem vas_same {K : PySem.W.Frag} {H H2 : Hp} {w w2 : Wd} {vs : List V} {rs : List Ent} (hα : w2.α = w.α) (h1 : Vas K H w vs rs) (g : Same (dl H w.all) (dl H2 w2.all)) : Vas K H2 w2 vs rs := by
  refine ⟨h1.1, fun i v r a b => ?_⟩
  have hv := h1.2 i v r a b
  cases r with
  | dat d => exact dq_mono g _ _ hv
  | ptr k =>
    obtain ⟨y, a1, a2⟩ := hv
    exact ⟨y, by rw [hα]; exact a1, a2⟩
  | obj C2 fs2 =>
    obtain ⟨y, dy, ws, a1, a2, a3, a4⟩ := hv
    exact ⟨y, dy, ws, a1, g _ _ a2, a3, dqAll_mono g _ _ a4⟩
  | scr ns =>
    obtain ⟨y, a1, a2⟩ := hv
    refine ⟨y, a1, ?_⟩
    rcases a2 with (a2 | ⟨o, a2⟩) | a2
    · exact .inl (.inl (g _ _ a2))
    · exact .inl (.inr ⟨o, g _ _ a2⟩)
    · exact .inr a2
  | raw u => exact hv
  | exc a d fs2 =>
    obtain ⟨a1, ws, a2, a3, a4⟩ := hv
    exact ⟨a1, ws, g _ _ a2, a3, dqAll_mono g _ _ a4⟩
end J
namespace J
open PySem PySem.Spec
open PyProof.Rows L2
noncomputable abbrev Ini := Except (Addr × List (Str × PyData)) (List (Str × PyData))
noncomputable def SIX (X : Cx) (W : WX) (C : Addr) (sts : List Stmt) (ρ : REnv) (μ : Sto) (fs : List (Str × PyData)) (o : Ini) : Prop :=
  ∀ w0 x dx σ H (D : Ends), Mem X.K H (wk' w0 x) μ → Sl X.K H (wk' w0 x) σ ρ → σ[0]? = some (some (.ref x)) → InO H (wk' w0 x) x dx C fs →
    (match o with
      | .ok fsF => ∀ σ1 H1, Mem X.K H1 (wk' w0 x) μ → FrX w0 x H H1 → InO H1 (wk' w0 x) x dx C fsF → D.nx σ1 H1
      | .error cf => ∀ od σ1 H1, Mem X.K H1 (wk' w0 x) μ → Fr (wk' w0 x).α H H1 → Xd H1 (wk' w0 x) od cf.2 → W (.ref cf.1) od σ1 H1) → SX X sts D σ H
section
variable {X : Cx} {W : WX} {ρ : REnv} {μ : Sto} {e : Expr} {rest sts : List Stmt} {pos p' : Pos} {r : Ent} {x : Str} {C Ce : Addr} {fs fsF cf : List (Str × PyData)} {o : Ini}
theorem SIX.ok (h : SI X C sts ρ μ fs fsF) : SIX X W C sts ρ μ fs (.ok fsF) := fun w0 x dx σ H D m s hs hI q => h w0 x dx σ H D m s hs hI q
theorem SIX.exprE (h : EVR X W e ρ μ (.rse Ce cf μ)) (hs : swapsWith e none pos.line X.env = pure false := by rfl) : SIX X W C (.Expr e pos :: rest) ρ μ fs (.error (Ce, cf)) := by
  intro w0 x dx σ H D m s hs0 hI q
  refine ⟨_, pss_cons (ps_expr (p_ex (e := e)) hs) p_sx, ?_⟩
  exact h (wk' w0 x) σ H m s _ fun od H1 m1 f1 x1 => q od σ H1 m1 f1 x1
theorem SIX.setE {i : Nat} (h : EVR X W e ρ μ (.rse Ce cf μ)) (hN : X.N.Nodup) (hi : X.N[i]? = some x) (hx : Loc X.env.scope x) (hs : swapsWith e (some (.Name x p')) pos.line X.env = pure false := by rfl)
    (hf : X.fn x = true ∨ X.env.scope.names.lookup x = some .local := by first | exact .inl rfl | exact .inr rfl | assumption) : SIX X W C (.Assign [.Name x p'] e pos :: rest) ρ μ fs (.error (Ce, cf)) := by
  intro w0 x dx σ H D m s hs0 hI q
  refine ⟨_, pss_cons (ps_set hN hi hx (p_ex (e := e)) hs hf) p_sx, ?_⟩
  exact h (wk' w0 x) σ H m s _ fun od H1 m1 f1 x1 => q od σ H1 m1 f1 x1
theorem SIX.expr (h : EV X e ρ μ r μ) (hr : SIX X W C rest ρ μ fs o) (hs : swapsWith e none pos.line X.env = pure false := by rfl) : SIX X W C (.Expr e pos :: rest) ρ μ fs o := by
  intro w0 x dx σ H D m s hs0 hI q
  refine ⟨_, pss_cons (ps_expr (p_ex (e := e)) hs) p_sx, ?_⟩
  refine h (wk' w0 x) σ H m s _ fun v H1 m1 f1 hv => ?_
  refine hr w0 x dx σ H1 D m1 (s.fr f1) hs0 (hI.fr m f1) ?_
  cases o with
  | ok fsF => exact fun σ1 H2 m2 f2 i2 => q σ1 H2 m2 (f2.pre f1) i2
  | error cf => exact fun od σ1 H2 m2 f2 x2 => q od σ1 H2 m2 (f1.trans f2) x2
theorem SIX.set {i : Nat} (h : EV X e ρ μ r μ) (hi0 : i ≠ 0) (hN : X.N.Nodup) (hi : X.N[i]? = some x) (hx : Loc X.env.scope x) (hr : SIX X W C rest (ρ.set i (some r)) μ fs o) (hs : swapsWith e (some (.Name x p')) pos.line X.env = pure false := by rfl)
    (hf : X.fn x = true ∨ X.env.scope.names.lookup x = some .local := by first | exact .inl rfl | exact .inr rfl | assumption) : SIX X W C (.Assign [.Name x p'] e pos :: rest) ρ μ fs o := by
  intro w0 x dx σ H D m s hs0 hI q
  refine ⟨_, pss_cons (ps_set hN hi hx (p_ex (e := e)) hs hf) p_sx, ?_⟩
  refine h (wk' w0 x) σ H m s _ fun v H1 m1 f1 h1 => ?_
  refine hr w0 x dx _ H1 D m1 ((s.fr f1).set h1) (by rw [List.getElem?_set_ne hi0]; exact hs0) (hI.fr m f1) ?_
  cases o with
  | ok fsF => exact fun σ1 H2 m2 f2 i2 => q σ1 H2 m2 (f2.pre f1) i2
  | error cf => exact fun od σ1 H2 m2 f2 x2 => q od σ1 H2 m2 (f1.trans f2) x2
end
noncomputable def spInitFX (K : PySem.W.Frag) (C : Addr) (con : List Ent → Sto → Ini → Prop) : Sp := fun vs H Q E => ∃ x dx us w0 μ rs o, vs = .ref x :: us ∧ Mem K H (wk' w0 x) μ ∧ Vas K H (wk' w0 x) us rs ∧ InO H (wk' w0 x) x dx C [] ∧ con rs μ o ∧
  (match o with
    | .ok fs => ∀ H1, Mem K H1 (wk' w0 x) μ → FrX w0 x H H1 → InO H1 (wk' w0 x) x dx C fs → Q .non H1
    | .error cf => ∀ od H1, Mem K H1 (wk' w0 x) μ → Fr (wk' w0 x).α H H1 → Xd H1 (wk' w0 x) od cf.2 → E (.ref cf.1) od H1)
structure MakFX (P : Program) (w : World) (K : PySem.W.Frag) (mg : Str → Option Value) (base : Heap) (n : Str) (C : Addr) (k : Nat) (ps : List Str) (con : List Ent → Sto → Ini → Prop) : Prop where
  ex : ∃ g fd, FnOk P w K mg base (L2N.CX P w) k g fd ps (spInitFX K C con) ∧ Mk K C g ∧ mg n = some (.ref C) ∧ Binds K fd ps []
section
variable {w : World} {P : Program} {K : PySem.W.Frag} {base : Heap} {mg : Str → Option Value}
theorem okInitFX {x qual : Str} {st : Stmt} {f : Addr} {fd : FuncData} {N ps : List Str} {k : Nat} {C : Addr} {con : List Ent → Sto → Ini → Prop} (F : Fun K x qual st f fd) (Sc : FnScope N ps (defScope st)) (hN : ps.length ≤ N.length) (hlen : ∀ rs μ o, con rs μ o → rs.length + 1 = ps.length)
    (body : ∀ (cdv : Value) (A : Around) (outer : List Env) (s : Shared) (H : Hp) (E : XK), Room k (A.deeper (envOfC qual (defScope st) s.heap.objs.size f cdv)) → L2N.Takes (cxOf (L2N.CX P w) P w K mg base N qual (defScope st) f cdv A outer s H E) (fun cls d _ H => E cls d H) → ∀ rs μ o, con rs μ o →
      SIX (cxOf (L2N.CX P w) P w K mg base N qual (defScope st) f cdv A outer s H E) (fun cls d _ H => E cls d H) C (defBody st) (none :: (rs.map some ++ List.replicate (N.length - (rs.length + 1)) none)) μ [] o) : FnOk P w K mg base (L2N.CX P w) (k + 1) f fd ps (spInitFX K C con) := by
  refine okXN F Sc (fun vs H Q E h => ?_) (fun cdv A outer s H vs Q E hr h => ?_)
  · obtain ⟨x, dx, us, w0, μ, rs, o, rfl, _, hv, _, hC, _⟩ := h
    rw [List.length_cons, hv.1]
    exact hlen rs μ o hC
  · obtain ⟨x, dx, us, w0, μ, rs, o, rfl, m, hv, hI, hC, q⟩ := h
    have hl := hlen rs μ o hC
    have sl0 := sl_start (N := N) (Vas.cons (r := .raw (.ref x)) (K := K) (H := H) (w := wk' w0 x) (v := .ref x) rfl hv) (by rw [List.length_cons]; omega)
    have sl : Sl K H (wk' w0 x) (L2.start N (.ref x :: us)) (none :: (rs.map some ++ List.replicate (N.length - (rs.length + 1)) none)) := by
      refine ⟨sl0.len.trans (by simp), fun i r e => ?_⟩
      cases i with
      | zero => simp at e
      | succ i => exact sl0.at_ (i + 1) r e
    obtain ⟨v0, hv0, e0⟩ := sl0.at_ 0 (.raw (.ref x)) rfl
    cases e0
    refine body cdv A outer s H E hr (L2N.takes_of rfl rfl rfl rfl) rs μ o hC w0 x dx _ H _ m sl hv0 hI ?_
    cases o with
    | ok fs => exact fun σ1 H1 m1 f1 i1 => q H1 m1 f1 i1
    | error cf => exact fun od σ1 H1 m1 f1 x1 => q od H1 m1 f1 x1
end
noncomputable def mkResF (C : Addr) (μ : Sto) : Ini → Res
  | .ok fs => .ok (.obj C fs) μ
  | .error cf => .rse cf.1 cf.2 μ
section
variable {X : Cx} {W : WX} {ρ : REnv} {μ μ1 : Sto} {e : Expr} {es : List Expr} {pos p : Pos} {rs : List Ent} {n : Str} {C : Addr} {k : Nat} {ps : List Str} {con : List Ent → Sto → Ini → Prop} {o : Ini}
theorem make_tailX {w : Wd} {σ : L2.St} {H : Hp} {x dx : Addr} {vs : List V} {Q : VK} (m1 : Mem X.K H w μ1) (h1 : Vas X.K H w vs rs) (hC : con rs μ1 o) (hx : H x = none) (hdx : H dx = none) (hne : dx ≠ x) (q : EndR X.K w H σ W Q (mkResF C μ1 o)) :
    spInitFX X.K C con (.ref x :: vs) (upd (upd H dx (.own x)) x (.ins C dx [])) (fun v H2 => v = .non ∧ Q (.ref x) H2) (fun cls od H2 => W cls od σ H2) := by
  have hS : Same H (upd (upd H dx (.own x)) x (.ins C dx [])) := fun b u eb => by
    rw [upd_ne (ne_of_none eb hx), upd_ne (ne_of_none eb hdx)]
    exact eb
  have g := keep_out (K := X.K) (w := w) hx (Fr.of_same hS) ⟨_, upd_same⟩
  refine ⟨x, dx, vs, w, μ1, rs, o, rfl, make_mem m1 hx hdx hne, vas_same (w := w) (w2 := wk' w x) rfl h1 g, ⟨[], upd_same, rfl, .nil⟩, hC, ?_⟩
  have hxa : x ∉ w.all := m1.freshA hx
  cases o with
  | ok fs =>
    intro H2 m2 f2 i2
    obtain ⟨ws, e2, n2, d2⟩ := i2
    exact ⟨rfl, q (.ref x) H2 m2.unkeep (fun b o eb nb nt => f2 b o (ne_of_none eb hx) (hS b o eb) nb nt) ⟨x, dx, ws, rfl, dl_of hxa e2, n2, dqAll_mono (dl_sub fun b hb => all_wk'.mpr (.inr hb)) _ _ d2⟩⟩
  | error cf =>
    intro od H2 m2 f2 x2
    exact q od H2 m2.unkeep (fun b o eb nb nt => f2 b o (hS b o eb) nb nt) (x2.sub fun b hb => all_wk'.mpr (.inr hb))
theorem EVR.makeF (M : MakFX X.prog X.w X.K X.mg X.base n C k ps con) (tk : L2N.Takes X W) (hr : Room (k + 1) X.A) (ha : AV X (e :: es) ρ μ rs μ1) (hC : con rs μ1 o) (hps : rs.length + 1 = ps.length := by rfl) (hg : Gl X n := by rfl) (hs : starEach (e :: es) X.env = (false, eval e X.env) :: starEach es X.env := by rfl) (hdb : (n == ("__debug__" : Str)) = false := by decide)
    (hpl : (backTo pos (starEach es X.env)).any (·.1) = false := by rfl) : EVR X W (.Call (.Name n p) (e :: es) [] pos) ρ μ (mkResF C μ1 o) := by
  intro w σ H m s Q q
  obtain ⟨g, fd, F, mk, hm, bi⟩ := M.ex
  refine ⟨fun σ H Q => AX X (e :: es) σ H fun vs H1 => vs.length + 1 = ps.length ∧ ∀ x dx, H1 x = none → H1 dx = none → dx ≠ x → spInitFX X.K C con (.ref x :: vs) (upd (upd H1 dx (.own x)) x (.ins C dx [])) (fun v H2 => v = .non ∧ Q (.ref x) H2) (WE W σ), ⟨fun pins s0 σ0 H0 Q0 I h => ?_⟩, ?_⟩
  · refine wpAny_Call_Name_kw (ld_glob I hg hm ?_ hdb)
    refine PySem.W.callWith_K (h₀ := X.base) I.ok.mod.kin mk.kp (thn ((p_ax (e := e :: es)).run pos pins s0 σ0 H0 _ I h) fun us s1 ⟨vs, H1, I1, r, hl, z⟩ => ⟨I1.kIn, ?_⟩) hs hpl
    have hul : us.length = vs.length := r.length.symm
    have r' : Vals vs (us ++ []) := by rw [List.append_nil]; exact r
    exact run_makeS (ks := []) (ws := []) mk F hr (fun s u ki => by
      have := bi s (u :: us) ki (by rw [List.append_nil, List.length_cons, hul]; exact hl)
      rw [List.append_nil] at this
      rw [List.append_nil]
      exact this) (L2N.passAt tk σ0) I1 r' z
  · refine ha w σ H m s _ fun vs H1 m1 f1 h1 => ?_
    refine ⟨by rw [h1.1]; exact hps, fun x dx hx hdx hne => ?_⟩
    refine make_tailX (σ := σ) m1 h1 hC hx hdx hne ?_
    cases o with
    | ok fs => exact fun u H2 m2 f2 h2 => q u H2 m2 (f1.trans f2) h2
    | error cf => exact fun od H2 m2 f2 h2 => q od H2 m2 (f1.trans f2) h2
end
end J
namespace J
open PySem PySem.Spec
open PyProof.Rows L2
noncomputable def errOf : Ini → Option (Addr × List (Str × PyData))
  | .ok _ => none
  | .error cf => some cf
section
variable {X : Cx} {W : WX} {ρ : REnv} {μ μ1 μ2 : Sto} {o : Expr} {f : Str} {C : Addr} {k : Nat} {cn : Con} {r : Ent} {pos : Pos} {oo : Ini}
theorem EVR.propF (ho : EVR X W o ρ μ (mkResF C μ1 oo)) (cl : Cls X.K C) (hp : Prp X.prog X.w X.K X.mg X.base C f k cn) (hr : Room (k + 1) X.A) (hC : ∀ fs, oo = .ok fs → cn [.obj C fs] μ1 r μ2) (hb : attributeBase o f X.env (eval o X.env) = eval o X.env := by rfl) : EVR X W (.Attribute o f pos) ρ μ (mkThen r μ1 μ2 (errOf oo)) := by
  intro w σ H m s Q q
  obtain ⟨p0, gf, fd, F, po, bi⟩ := hp.ex
  refine ⟨_, pe_prop (E := E0) (p_ex (e := o)) cl po F hr bi .nil pass0 hb, ?_⟩
  refine ho w σ H m s _ ?_
  cases oo with
  | error cf => exact q
  | ok fs =>
    intro v H1 m1 f1 h1
    have h1' := h1
    obtain ⟨x, dx, ws, rfl, hx, hn, hd⟩ := h1
    exact ⟨x, dx, ws, rfl, (dl_some hx).2, w, μ1, _, r, μ2, m1, .cons h1' .nil, rfl, hC fs rfl, fun v H' m2 f2 h2 => q v H' m2 (f1.trans f2) h2⟩
end
end J
namespace J
open PySem PySem.Spec
open PyProof.Rows L2
structure CauO (P : Program) (w : World) (K : PySem.W.Frag) (mg : Str → Option Value) (base : Heap) (c1 c2 c3 : Addr) : Prop where
  df : Df K mg "_law_caught" sLCaught
  rep : mg "repr" = none
  tel : TelO P w K mg base
  m1 : mg "NotRight" = some (.ref c1)
  m2 : mg "NotThere" = some (.ref c2)
  m3 : mg "CannotBe" = some (.ref c3)
section
variable {c1 c2 c3 : Addr}
theorem EV.caughtPropO {X : Cx} {ρ : REnv} {μ : Sto} {call : Expr} {m x : Str} {cdv : Value} {k kp : Nat} {R : Addr} {cn : Con} {d : PyData} {xs : List PyData} {oo : Ini} {params : Arguments} {scope : Scope} {p lpos pos p4 : Pos} (Y : CauO X.prog X.w X.K X.mg X.base c1 c2 c3) (cl : Cls X.K R) (Bp : Prp X.prog X.w X.K X.mg X.base R m kp cn) (L : LamD X.K X.mg X.base x cdv) (hq : X.env.qual = x ++ ".<locals>.") (hcode : X.env.code = cdv) (hgd : X.A.guards = some []) (hr : Room (k + 2) X.A) (hk : 2 ≤ k) (hkp : kp + 1 ≤ k)
    (hC : CaughtO X.prog X.w X.K X.mg X.base [.ref c1, .ref c2, .ref c3] μ (mkThen (.dat d) μ μ (errOf oo)) xs) (hcn : ∀ fs, oo = .ok fs → cn [.obj R fs] μ (.dat d) μ)
    (hb : ∀ (A : Around) (outer : List Env) (s : Shared) (H : Hp) (E : XK) (f c' : Addr), Room k (A.deeper (LamX.lamEnv X scope s.heap.objs.size f c')) → EVR (LamX.lamCx X A outer s H E scope f c') (fun cls d _ H => E cls d H) call ρ μ (mkResF R μ oo))
    (hg : Gl X "_law_caught" := by rfl) (hL : LamX.lamSB X.env.scope scope = true := by decide +kernel) (hdef : defaultsOf params X.env = ([], []) := by rfl) (hbind : ∀ (q : Str) (cl : List (Str × Addr)) (pm cv ctv : Value), bindArgs (PySem.W.kla_fn "<lambda>" q params (.Attribute call m p4) scope cl pm cv ctv) ⟨[], []⟩ = pure [] := by exact fun _ _ _ _ _ => rfl) (hab : ∀ E : Env, attributeBase call m E (eval call E) = eval call E := by exact fun _ => rfl) :
    EV X (.Call (.Name "_law_caught" p) [.Lambda params (.Attribute call m p4) scope lpos] [] pos) ρ μ (Ls xs) μ := by
  refine EV.caughtO (o := mkThen (.dat d) μ μ (errOf oo)) L hq hcode Y.df Y.rep Y.tel Y.m1 Y.m2 Y.m3 hgd hr hk hC (fun A outer s H Ex f c' hr2 => ?_) hg hL hdef hbind
  exact EVR.propF (X := LamX.lamCx X A outer s H Ex scope f c') (hb A outer s H Ex f c' hr2) cl Bp (hr2.mono hkp) hcn (hab _)
end
end J
namespace G
open PySem J
structure Pu where
  a : Int
  b : Int
  c : Int
noncomputable def Pu.ds (p : Pu) : List PyData := [.int p.a, .int p.b, .int p.c]
noncomputable def Pu.ok (p : Pu) : Prop := 0 ≤ p.a ∧ p.a < 2147483563 ∧ 0 ≤ p.b
noncomputable def mixA (p : Pu) : Int := (p.a * (p.a % 997 + 40014) + 12211 * (p.c + 1) + 7) % 2147483563
noncomputable def draw (m : Int) (p : Pu) : Int × Pu :=
  if 0 < p.b then (p.b % m, ⟨mixA p, p.b / m, p.c + 1⟩) else (mixA p / 53 % m, ⟨mixA p, p.b, p.c + 1⟩)
theorem draw_ok {m : Int} {p : Pu} (h : p.ok) (hm : 0 < m) : 0 ≤ (draw m p).1 ∧ (draw m p).1 < m ∧ (draw m p).2.ok := by
  obtain ⟨h1, h2, h3⟩ := h
  have a1 : 0 ≤ mixA p := Int.emod_nonneg _ (by decide)
  have a2 : mixA p < 2147483563 := Int.emod_lt_of_pos _ (by decide)
  unfold draw
  split
  · exact ⟨Int.emod_nonneg _ (by omega), Int.emod_lt_of_pos _ hm, a1, a2, Int.ediv_nonneg h3 (by omega)⟩
  · exact ⟨Int.emod_nonneg _ (by omega), Int.emod_lt_of_pos _ hm, a1, a2, h3⟩
noncomputable def nth {α : Type} (d : α) (l : List α) (i : Int) : α := l.getD i.toNat d
theorem nth_some {α : Type} {d : α} {l : List α} {i : Int} (h0 : 0 ≤ i) (h1 : i < l.length) : l[i.toNat]? = some (nth d l i) := by
  have : i.toNat < l.length := by omega
  unfold nth
  rw [List.getD_eq_getElem?_getD]
  simp [this]
theorem nth_mem {α : Type} {d : α} {l : List α} {i : Int} (h0 : 0 ≤ i) (h1 : i < l.length) : nth d l i ∈ l := List.mem_iff_getElem?.mpr ⟨_, nth_some h0 h1⟩
noncomputable def pick {α : Type} (d : α) (l : List α) (p : Pu) : α × Pu := (nth d l (draw l.length p).1, (draw l.length p).2)
theorem pick_ok {α : Type} {d : α} {l : List α} {p : Pu} (h : p.ok) (hl : l ≠ []) : (pick d l p).1 ∈ l ∧ (pick d l p).2.ok := by
  have hp : 0 < (l.length : Int) := by
    have := List.length_pos_iff.mpr hl
    omega
  obtain ⟨h1, h2, h3⟩ := draw_ok (m := l.length) h hp
  exact ⟨nth_mem h1 h2, h3⟩
noncomputable def run {α β : Type} (f : β → Pu → α × Pu) : List β → Pu → List α × Pu
  | [], p => ([], p)
  | b :: bs, p => ((f b p).1 :: (run f bs (f b p).2).1, (run f bs (f b p).2).2)
theorem run_snoc {α β : Type} (f : β → Pu → α × Pu) : ∀ (bs : List β) (b : β) (p : Pu), run f (bs ++ [b]) p = ((run f bs p).1 ++ [(f b (run f bs p).2).1], (f b (run f bs p).2).2)
  | [], b, p => rfl
  | x :: bs, b, p => by
    have := run_snoc f bs b (f x p).2
    show ((f x p).1 :: (run f (bs ++ [b]) (f x p).2).1, (run f (bs ++ [b]) (f x p).2).2) = _
    rw [this]
    rfl
theorem run_len {α β : Type} (f : β → Pu → α × Pu) : ∀ (bs : List β) (p : Pu), (run f bs p).1.length = bs.length
  | [], p => rfl
  | b :: bs, p => by
    show ((f b p).1 :: (run f bs (f b p).2).1).length = _
    rw [List.length_cons, run_len f bs, List.length_cons]
theorem run_ok {α β : Type} {f : β → Pu → α × Pu} {R : β → α → Prop} : ∀ (bs : List β) (p : Pu), (∀ b ∈ bs, ∀ q, q.ok → R b (f b q).1 ∧ (f b q).2.ok) → p.ok → (∀ x ∈ (run f bs p).1, ∃ b ∈ bs, R b x) ∧ (run f bs p).2.ok
  | [], p, hf, h => ⟨fun x hx => by simp [run] at hx, h⟩
  | b :: bs, p, hf, h => by
    obtain ⟨h1, h2⟩ := hf b List.mem_cons_self p h
    obtain ⟨h3, h4⟩ := run_ok bs (f b p).2 (fun c hc => hf c (List.mem_cons_of_mem _ hc)) h2
    refine ⟨fun x hx => ?_, h4⟩
    have hx' : x ∈ (f b p).1 :: (run f bs (f b p).2).1 := hx
    rcases List.mem_cons.mp hx' with rfl | hx
    · exact ⟨b, List.mem_cons_self, h1⟩
    · obtain ⟨c, hc, r⟩ := h3 x hx
      exact ⟨c, List.mem_cons_of_mem _ hc, r⟩
noncomputable abbrev many {α : Type} (f : Pu → α × Pu) (n : Nat) (p : Pu) : List α × Pu := run (fun _ => f) (List.range n) p
noncomputable def words : List Str := ["join", "take", "clear", "call", "plan", "base", "all", "last", "before", "left", "right", "on", "of", "a", "a1", "z9"]
noncomputable def signs : List Nat := (M.letters ++ M.digits).cps.toList
noncomputable def tag (p : Pu) : Str × Pu :=
  let r := draw 4 p
  if r.1 = 0 then pick Str.empty words r.2
  else
    let f := draw 26 r.2
    let n := draw 8 f.2
    let q := many (pick 0 signs) n.1.toNat n.2
    (⟨(nth 0 signs f.1 :: q.1).toArray⟩, q.2)
noncomputable def spares : List Str := ["a", "b", "up2", "d", "e"]
noncomputable def freshTag (found : List Str) (t : Str) : Str := if t ∈ found then (spares.filter fun s => decide (s ∉ found)).headD Str.empty else t
noncomputable def tags (p : Pu) : Nat → List Str × Pu
  | 0 => ([], p)
  | n + 1 => ((tags p n).1 ++ [freshTag (tags p n).1 (tag (tags p n).2).1], (tag (tags p n).2).2)
noncomputable def goalD (p : Pu) : (Str × Int) × Pu :=
  let r := draw 4 p
  if r.1 < 2 then ((nth Str.empty ["all", "before"] r.1, 0), r.2)
  else
    let k := draw 4 r.2
    (("last", 1 + k.1), k.2)
structure Part where
  word : Str
  over : Int
  by_ : Int
  side : Str
  far : Int
  tag : Str
noncomputable def Part.d (x : Part) : PyData := .tuple [.str x.word, .int x.over, .int x.by_, .str x.side, .int x.far, .str x.tag]
noncomputable def deed (over by_ : Int) (p : Pu) : Part × Pu :=
  let w := pick Str.empty ["join", "join", "take", "clear"] p
  let s := pick Str.empty ["left", "right"] w.2
  let f := draw 4 s.2
  ((if w.1 = "clear" then ⟨"clear", over, by_, Str.empty, 0, Str.empty⟩ else ⟨w.1, over, by_, s.1, 1 + f.1, Str.empty⟩), f.2)
noncomputable def oversN (by_ : Nat) (p : Pu) : Nat → List Int × List Int × Pu
  | 0 => ((List.range by_).map fun (i : Nat) => (0 + (i : Int)), [], p)
  | n + 1 =>
    let s := oversN by_ p n
    let r := draw s.1.length s.2.2
    (s.1.eraseIdx r.1.toNat, s.2.1 ++ [nth 0 s.1 r.1], r.2)
noncomputable def overs (by_ : Nat) (p : Pu) : List Int × Pu :=
  let r := draw by_ p
  (oversN by_ r.2 (1 + r.1).toNat).2
noncomputable def callPart (by_ : Int) (known : List Str) (o : Int) (p : Pu) : Part × Pu := let r := pick Str.empty known p; (⟨"call", o, by_, Str.empty, 0, r.1⟩, r.2)
noncomputable def round (lower tags : List Str) (p : Pu) : List Part × Pu :=
  let c := draw 3 p
  let b := draw 3 c.2
  let by_ : Int := if c.1 = 0 ∧ 1 + b.1 = 1 ∧ lower = [] then 2 else 1 + b.1
  let os := overs by_.toNat b.2
  if c.1 = 0 then run (callPart by_ (if by_ = 1 then lower else tags)) os.1 os.2 else run (fun o => deed o by_) os.1 os.2
structure Mate where
  tag : Str
  goal : Str × Int
  base : Int
  rounds : List (List Part)
noncomputable def Mate.d (x : Mate) : PyData := .tuple [.str x.tag, .tuple [.str x.goal.1, .int x.goal.2], .int x.base, .list (x.rounds.map fun r => .list (r.map Part.d))]
noncomputable def mate (tags : List Str) (mny : Int) (k : Nat) (p : Pu) : Mate × Pu :=
  let n := draw mny p
  let rs := many (round (tags.drop (k + 1)) tags) (1 + n.1).toNat n.2
  let g := goalD rs.2
  let b := draw 4 g.2
  (⟨tags.getD k Str.empty, g.1, 1 + b.1, rs.1⟩, b.2)
noncomputable def matesN (tags : List Str) (mny : Int) (p : Pu) : Nat → List Mate × Pu
  | 0 => ([], p)
  | k + 1 => ((matesN tags mny p k).1 ++ [(mate tags mny k (matesN tags mny p k).2).1], (mate tags mny k (matesN tags mny p k).2).2)
noncomputable def mates (most mny : Int) (p : Pu) : List Mate × Pu :=
  let n := draw most p
  let ts := tags n.2 (1 + n.1).toNat
  matesN ts.1 mny ts.2 ts.1.length
noncomputable def ends (x : Part) : Str := M.strI x.over ++ " of " ++ M.strI x.by_
noncomputable def clause (x : Part) : Str :=
  if x.word = "call" then "call " ++ x.tag ++ " on " ++ ends x
  else if x.word = "clear" then "clear " ++ ends x
  else x.word ++ " " ++ ends x ++ " " ++ x.side ++ " " ++ M.strI x.far
noncomputable def line (r : List Part) : Str := Txt.join "; " (r.map clause)
noncomputable def aim (g : Str × Int) : Str := if g.1 = "last" then g.1 ++ " " ++ M.strI g.2 else g.1
noncomputable def told (x : Mate) : PyData := .tuple [.str x.tag, .str (aim x.goal), .int x.base, .tuple (x.rounds.map fun r => .str (line r))]
end G
namespace J
open PySem PySem.Spec
open PyProof.Rows L2
end J
namespace GL
open PySem J L2 M
structure Gg (g : Str × Int) : Prop where
  k : (g.1 = "all" ∧ g.2 = 0) ∨ (g.1 = "before" ∧ g.2 = 0) ∨ (g.1 = "last" ∧ 1 ≤ g.2 ∧ g.2 ≤ 4)
end GL
namespace J
open PySem PySem.Spec
open PyProof.Rows L2
section
variable {w : World} {P : Program} {K : PySem.W.Frag} {base : Heap} {mg : Str → Option Value} {C : Addr}
theorem scLo : FnScope ["goal"] ["goal"] (defScope sLastOf) := ⟨rfl, rfl, rfl, by decide +kernel, rfl, by decide +kernel, by decide +kernel⟩
noncomputable def lastG (g : Str × Int) : PyData := if g.1 = "last" then .int g.2 else .none
noncomputable def cnLo : Con := fun rs μ r μ' => ∃ g : Str × Int, rs = [Ss (G.aim g)] ∧ GL.Gg g ∧ r = .dat (lastG g) ∧ μ' = μ
theorem last_fit1 : ∀ i : _root_.Fin 5, (G.aim ("last", (i.val : Int))).length ≤ 100 ∧ atI (G.aim ("last", (i.val : Int))).cps.toList (-1) = some (48 + i.val) ∧ PySem.intText? (⟨#[48 + i.val]⟩ : Str) = some (i.val : Int) ∧ inD (.str (G.aim ("last", (i.val : Int)))) [.str "all", .str "before"] = false := by decide +kernel
theorem cLo (T : Bt mg) (D : Df K mg "last_of" sLastOf) : Cal P w K mg base "last_of" 1 ["goal"] cnLo := by
  refine D.cal scLo (fun _ _ _ _ _ _ us hl => len1 us hl fun _ => rfl) (by decide) (fun rs μ r μ' h => by obtain ⟨_, _, _, _, rfl⟩ := h; rfl) fun f cdv A outer s H E hr rs μ r μ' hC => ?_
  obtain ⟨⟨g1, g2⟩, rfl, hg, rfl, rfl⟩ := hC
  rcases hg.k with ⟨h1, h2⟩ | ⟨h1, h2⟩ | ⟨h1, h2, h3⟩ <;> dsimp only at h1 h2 <;> subst h1
  · exact ST.ifYes (TV.eq (tInT (d := .str "all") (nm 0) (EV.tup (ds := [.str "all", .str "before"]) (AV.cons EV.str (AV.cons EV.str AV.nil))) rfl rfl) (by decide +kernel)) rfl (ST.retP EV.non rfl)
  · exact ST.ifYes (TV.eq (tInT (d := .str "before") (nm 0) (EV.tup (ds := [.str "all", .str "before"]) (AV.cons EV.str (AV.cons EV.str AV.nil))) rfl rfl) (by decide +kernel)) rfl (ST.retP EV.non rfl)
  · dsimp only at h3
    obtain ⟨k, hk⟩ : ∃ k : _root_.Fin 5, g2 = (k.val : Int) := ⟨⟨g2.toNat, by omega⟩, by show g2 = ((g2.toNat : Nat) : Int); omega⟩
    subst hk
    obtain ⟨e1, e2, e3, e4⟩ := last_fit1 k
    refine ST.ifNo (TV.eq (tInT (nm 0) (EV.tup (ds := [.str "all", .str "before"]) (AV.cons EV.str (AV.cons EV.str AV.nil))) rfl rfl) e4) rfl ?_
    exact ST.retP (bIntS T (ixS (nm 0) (EV.neg EV.int) (sz (by omega)) e2) e3 (by show 1 ≤ 640; decide)) rfl
end
end J
namespace J
open PySem PySem.Spec
open PyProof.Rows L2
section
variable {w : World} {P : Program} {K : PySem.W.Frag} {base : Heap} {mg : Str → Option Value} {C : Addr}
theorem scCkB : FnScope ["book"] ["book"] (defScope sCheckBook) := ⟨rfl, rfl, rfl, by decide +kernel, rfl, by decide +kernel, by decide +kernel⟩
theorem scPlO : FnScope ["book", "name"] ["book", "name"] (defScope sPlanOf) := ⟨rfl, rfl, rfl, by decide +kernel, rfl, by decide +kernel, by decide +kernel⟩
end
end J
namespace J
open PySem PySem.Spec
open PyProof.Rows L2
end J
namespace J
open PySem PySem.Spec
open PyProof.Rows L2
end J
namespace N
open PySem J L2
theorem split_join {sep : Str} {c : Nat} {r : List Nat} (hs : TL.tl sep = c :: r) (h2 : (TL.tl sep).all (· < 256) = true) {ys : List Str} (hne : ys ≠ []) (h : ∀ y ∈ ys, c ∉ TL.tl y) : Txt.split (Txt.join sep ys) sep = ys := by
  have e1 : sep = SX.S (TL.tl sep) := (M.S_of_tl sep).symm
  have e2 : ys = (ys.map TL.tl).map SX.S := by
    rw [List.map_map]
    have : ys.map (SX.S ∘ TL.tl) = ys.map id := List.map_congr_left fun y _ => M.S_of_tl y
    rw [this, List.map_id]
  have e3 : Txt.join sep ys = SX.S (TL.joinL (TL.tl sep) (ys.map TL.tl)) := by
    have := SX.join_S (TL.tl sep) (ys.map TL.tl)
    rwa [← e2, ← e1] at this
  have e4 : TL.tl (SX.S (TL.joinL (TL.tl sep) (ys.map TL.tl))) = TL.joinL (TL.tl sep) (ys.map TL.tl) := rfl
  rw [e3, M.split_list _ sep (by rw [hs]; exact List.cons_ne_nil _ _) h2, e4, hs, SX.spl_join (by simpa using hne) (fun p hp => by
    obtain ⟨y, hy, rfl⟩ := List.mem_map.mp hp
    exact h y hy)]
  exact e2.symm
noncomputable def sp : Str := " "
theorem sp_tl : TL.tl sp = [32] := by decide +kernel
theorem sp_256 : (TL.tl sp).all (· < 256) = true := by decide +kernel
theorem name_free {s : Str} (h : M.nameOk s = true) : ∀ c ∈ TL.tl s, 48 ≤ c ∧ c ≤ 122 ∧ c ≠ 59 := by
  intro c hc
  have h1 := (M.name_signs h).2.2 c hc
  have h2 : c ∈ G.signs := of_decide_eq_true h1
  have h3 : ∀ c ∈ G.signs, 48 ≤ c ∧ c ≤ 122 ∧ c ≠ 59 := by decide +kernel
  exact h3 c h2
noncomputable def Plain (s : Str) : Prop := 32 ∉ TL.tl s ∧ 59 ∉ TL.tl s
theorem plain_dig {i : Int} (h0 : 0 ≤ i) (h9 : i ≤ 9) : Plain (M.strI i) := by
  have h : ∀ k : Fin 10, 32 ∉ TL.tl (M.strI (k.val : Int)) ∧ 59 ∉ TL.tl (M.strI (k.val : Int)) := by decide +kernel
  have := h ⟨i.toNat, by omega⟩
  rwa [show ((i.toNat : Nat) : Int) = i by omega] at this
theorem plain_name {s : Str} (h : M.nameOk s = true) : Plain s := ⟨fun z => by have := name_free h _ z; omega, fun z => by have := name_free h _ z; omega⟩
theorem joinL_mem (S : List Nat) (c : Nat) : ∀ (ps : List (List Nat)), c ∈ TL.joinL S ps → c ∈ S ∨ ∃ p ∈ ps, c ∈ p
  | [], h => by cases h
  | [p], h => .inr ⟨p, by simp, h⟩
  | p :: q :: ps, h => by
    have h' : c ∈ p ++ (S ++ TL.joinL S (q :: ps)) := h
    rcases List.mem_append.mp h' with h2 | h1
    · exact .inr ⟨p, by simp, h2⟩
    rcases List.mem_append.mp h1 with h2 | h1
    · exact .inl h2
    · rcases joinL_mem S c (q :: ps) h1 with h2 | ⟨z, hz, h2⟩
      · exact .inl h2
      · exact .inr ⟨z, List.mem_cons_of_mem _ hz, h2⟩
theorem join_mem {sep : Str} {ys : List Str} {c : Nat} (h : c ∈ TL.tl (Txt.join sep ys)) : c ∈ TL.tl sep ∨ ∃ y ∈ ys, c ∈ TL.tl y := by
  have e2 : ys = (ys.map TL.tl).map SX.S := by
    rw [List.map_map]
    have : ys.map (SX.S ∘ TL.tl) = ys.map id := List.map_congr_left fun y _ => M.S_of_tl y
    rw [this, List.map_id]
  have e3 : Txt.join sep ys = SX.S (TL.joinL (TL.tl sep) (ys.map TL.tl)) := by
    have := SX.join_S (TL.tl sep) (ys.map TL.tl)
    rwa [← e2, M.S_of_tl] at this
  rw [e3] at h
  rcases joinL_mem _ _ _ h with h1 | ⟨p, hp, h1⟩
  · exact .inl h1
  · obtain ⟨y, hy, rfl⟩ := List.mem_map.mp hp
    exact .inr ⟨y, hy, h1⟩
theorem dig_in {i lo hi : Int} (h0 : 0 ≤ lo) (h1 : lo ≤ i) (h2 : i ≤ hi) (h9 : hi ≤ 9) : M.readDigit (M.strI i) lo hi = .int i := by
  obtain ⟨n, rfl⟩ : ∃ n : Nat, i = (n : Int) := ⟨i.toNat, by omega⟩
  have e := (M.dig_text n (by omega)).2.1
  unfold M.readDigit
  rw [if_pos, e]
  unfold inD M.digList
  rw [List.any_eq_true]
  refine ⟨.str (M.strI n), List.mem_map.mpr ⟨.int n, ?_, rfl⟩, ?_⟩
  · unfold rngD
    refine List.mem_map.mpr ⟨((n : Int) - lo).toNat, List.mem_range.mpr (by omega), ?_⟩
    congr 1
    omega
  · show (M.strI n == M.strI n) = true
    exact beq_self_eq_true _
end N
namespace J
open PySem PySem.Spec
open PyProof.Rows L2
theorem at_set {μ : Sto} {k : Nat} {ds es : List PyData} (h : μ[k]? = some ds) : (μ.set k es)[k]? = some es := by
  have := (List.getElem?_eq_some_iff.mp h).1
  simp [this]
theorem take_set {μ : Sto} {k : Nat} {es : List PyData} : (μ.set k es).take μ.length = μ.set k es := by
  rw [List.take_of_length_le (by simp)]
section
variable {w : World} {P : Program} {K : PySem.W.Frag} {base : Heap} {mg : Str → Option Value}
theorem scLDraw : FnScope ["_law_purse_here", "_law_many", "_law_mixed", "_law_digit"] ["_law_purse_here", "_law_many"] (defScope sLDraw) := ⟨rfl, rfl, rfl, by decide +kernel, rfl, by decide +kernel, by decide +kernel⟩
noncomputable def cnDraw : Con := fun rs μ r μ' => ∃ (k : Nat) (p : G.Pu) (m : Int), rs = [.ptr k, Ii m] ∧ (μ[k]? = some p.ds ∧ p.ok ∧ 0 < m ∧ m ≤ 100000) ∧ r = Ii (G.draw m p).1 ∧ μ' = μ.set k (G.draw m p).2.ds
theorem cDraw (T : Bt mg) (D : Df K mg "_law_draw" sLDraw) : Cal P w K mg base "_law_draw" 1 ["_law_purse_here", "_law_many"] cnDraw := by
  refine D.cal scLDraw (fun _ _ _ _ _ _ us hl => len2 us hl fun _ _ => rfl) (by decide) (fun rs μ r μ' h => by obtain ⟨_, _, _, _, _, _, rfl⟩ := h; simp) fun f cdv A outer s H E hr rs μ r μ' hC => ?_
  obtain ⟨k, p, m, rfl, ⟨hk, ⟨a1, a2, a3⟩, m1, m2⟩, rfl, rfl⟩ := hC
  refine ST.asgW (oAdd (ixC (nm 0) EV.int hk (at_nat (i := 2) rfl)) EV.int) (GW.sub (j := 2) (nm 0) EV.int hk (Nat.le_of_ble_eq_true rfl)) ?_
  have h1 := at_set (es := [.int p.a, .int p.b, .int (p.c + 1)]) hk
  refine ST.set (i := 2) (bIntI T (ixC (nm 0) EV.int h1 (at_nat (i := 0) rfl))) scLDraw.nd rfl (Or.inl rfl) ?_
  refine ST.asgW (oMod (bIntI T (oAdd (oAdd (oMul (nm 2) (oAdd (oMod (bIntI T (nm 2)) EV.int (by decide)) EV.int) (.inr (by have := Int.emod_nonneg p.a (show (997 : Int) ≠ 0 by decide); have := Int.emod_lt_of_pos p.a (show (0 : Int) < 997 by decide); omega))) (oMul EV.int (ixC (nm 0) EV.int h1 (at_nat (i := 2) rfl)) (.inl (by decide)))) EV.int)) EV.int (by decide)) (GW.sub (j := 0) (nm 0) EV.int h1 (Nat.le_of_ble_eq_true rfl)) ?_
  have h2 := at_set (es := [.int (G.mixA p), .int p.b, .int (p.c + 1)]) h1
  refine ST.ifR (tGt (ixC (nm 0) EV.int h2 (at_nat (i := 1) rfl)) EV.int) (fun hb => ?_) (fun hb => ?_)
  · refine ST.asgW (EV.callB call_divmod T.divmod (by decide +kernel) (AV.cons (ixC (nm 0) EV.int h2 (at_nat (i := 1) rfl)) (AV.cons (nm 1) AV.nil)) (cv_divmod ⟨m1, by omega⟩)) (GW.tup (GsW.cons (GW.sub (j := 1) (nm 0) EV.int h2 (Nat.le_of_ble_eq_true rfl)) (GsW.cons (GW.name (i := 3) scLDraw.nd rfl (Or.inl rfl)) GsW.nil))) ?_
    have e : G.draw m p = (p.b % m, ⟨G.mixA p, p.b / m, p.c + 1⟩) := by
      unfold G.draw
      rw [if_pos (of_decide_eq_true hb)]
    rw [e]
    refine ST.retP (nm 3) rfl ?_
    rw [List.set_set, List.set_set]
    exact take_set
  · have e : G.draw m p = (G.mixA p / 53 % m, ⟨G.mixA p, p.b, p.c + 1⟩) := by
      unfold G.draw
      rw [if_neg (of_decide_eq_false hb)]
    rw [e]
    refine ST.retP (oMod (bIntI T (oDiv (ixC (nm 0) EV.int h2 (at_nat (i := 0) rfl)) EV.int ⟨by decide, by decide⟩)) (nm 1) m1) rfl ?_
    rw [List.set_set]
    exact take_set
noncomputable def Menu (r : Ent) (ds : List PyData) : Prop := r = Ls ds ∨ ∃ s : Str, r = Ss s ∧ ds = strD s ∧ s.length ≤ 100000
noncomputable def cnPick : Con := fun rs μ r μ' => ∃ (k : Nat) (p : G.Pu) (m : Ent) (ds : List PyData), rs = [.ptr k, m] ∧ (μ[k]? = some p.ds ∧ p.ok ∧ Menu m ds ∧ 0 < ds.length ∧ ds.length ≤ 100000) ∧ r = .dat (G.pick .none ds p).1 ∧ μ' = μ.set k (G.pick .none ds p).2.ds
theorem scLPick : FnScope ["_law_purse_here", "_law_menu"] ["_law_purse_here", "_law_menu"] (defScope sLPick) := ⟨rfl, rfl, rfl, by decide +kernel, rfl, by decide +kernel, by decide +kernel⟩
theorem cPick (T : Bt mg) (C1 : Cal P w K mg base "_law_draw" 1 ["_law_purse_here", "_law_many"] cnDraw) (D : Df K mg "_law_pick" sLPick) : Cal P w K mg base "_law_pick" 2 ["_law_purse_here", "_law_menu"] cnPick := by
  refine D.cal scLPick (fun _ _ _ _ _ _ us hl => len2 us hl fun _ _ => rfl) (by decide) (fun rs μ r μ' h => by obtain ⟨_, _, _, _, _, _, _, rfl⟩ := h; simp) fun f cdv A outer s H E hr rs μ r μ' hC => ?_
  obtain ⟨k, p, m, ds, rfl, ⟨hk, hp, hm, m1, m2⟩, rfl, rfl⟩ := hC
  obtain ⟨d0, d1, _⟩ := G.draw_ok (m := ds.length) hp (by omega)
  have hg := G.nth_some (d := PyData.none) (l := ds) d0 d1
  have hg2 : atI ds (G.draw ds.length p).1 = some (G.pick .none ds p).1 := by
    have := at_nat hg
    rwa [show (((G.draw ds.length p).1.toNat : Nat) : Int) = (G.draw ds.length p).1 by omega] at this
  rcases hm with rfl | ⟨s, rfl, rfl, hs⟩
  · exact ST.retP (ixL (nm 1) (EV.call C1 hr (AV.cons (nm 0) (AV.cons (bLenL T (nm 1)) AV.nil)) ⟨k, p, _, rfl, ⟨hk, hp, by omega, by omega⟩, rfl, rfl⟩) hg2) rfl take_set
  · have hl : (strD s).length = s.length := by
      unfold strD
      rw [List.length_map]
      rfl
    rw [hl] at hg2 m1 m2
    obtain ⟨c, hc, e⟩ : ∃ c, atI s.cps.toList (G.draw s.length p).1 = some c ∧ (G.pick .none (strD s) p).1 = .str ⟨#[c]⟩ := by
      have hx := hg
      rw [hl] at hx
      unfold strD at hx
      rw [List.getElem?_map] at hx
      cases q : s.cps.toList[(G.draw s.length p).1.toNat]? with
      | none => rw [q] at hx; cases hx
      | some c =>
        rw [q] at hx
        refine ⟨c, ?_, ?_⟩
        · have := at_nat q
          rwa [show (((G.draw s.length p).1.toNat : Nat) : Int) = (G.draw s.length p).1 by rw [hl] at d0; omega] at this
        · have e2 : (G.pick .none (strD s) p).1 = G.nth .none (strD s) (G.draw s.length p).1 := by
            unfold G.pick
            rw [hl]
          rw [e2]
          simpa [strD] using hx.symm
    rw [e]
    have e3 : (G.pick PyData.none (strD s) p).2 = (G.draw s.length p).2 := by
      unfold G.pick
      rw [hl]
    rw [e3]
    exact ST.retP (ixS (nm 1) (EV.call C1 hr (AV.cons (nm 0) (AV.cons (bLenS T (nm 1) (sz (by omega))) AV.nil)) ⟨k, p, _, rfl, ⟨hk, hp, by omega, by omega⟩, rfl, rfl⟩) (sz (by omega)) hc) rfl take_set
end
end J
namespace J
open PySem PySem.Spec
open PyProof.Rows L2
theorem LCV.run {X : Cx} {ρ : REnv} {μ μ1 : Sto} {tg iter elt : Expr} {scope : Scope} {own : List (Str × Nat)} {α β : Type} {k : Nat} {p : G.Pu} {bs : List β} (h : β → PyData) (g : α → PyData) (f : β → G.Pu → α × G.Pu) (hi : IV X tg iter ρ μ (bs.map h) μ1) (h1 : μ1 = μ1.set k p.ds) (hp : p.ok) (hf : ∀ b ∈ bs, ∀ q, q.ok → (f b q).2.ok)
    (hs : ∀ b ∈ bs, ∀ q, q.ok → ∃ ρ', (∀ s H C cl fp, GV (blkX X scope s H C cl fp) tg (h b) (wipeE ρ (own.map (·.2))) ρ' (own.map (·.2))) ∧ (∀ s H C cl fp, EV (blkX X scope s H C cl fp) elt ρ' (μ1.set k q.ds) (.dat (g (f b q).1)) (μ1.set k (f b q).2.ds)))
    (hl : bs.length ≤ 100000) : LCV X elt tg iter [] scope own ρ μ ((G.run f bs p).1.map g) (μ1.set k (G.run f bs p).2.ds) := by
  have hok : ∀ i, (G.run f (bs.take i) p).2.ok := fun i => (G.run_ok (R := fun _ _ => True) (bs.take i) p (fun b hb q hq => ⟨trivial, hf b (List.mem_of_mem_take hb) q hq⟩) hp).2
  refine LCV.mk hi (fun i acc ν => acc = (G.run f (bs.take i) p).1.map g ∧ ν = μ1.set k (G.run f (bs.take i) p).2.ds) ⟨by simp [G.run], h1⟩ (fun i d acc ν e hI => ?_) (fun acc ν hI => ?_) (by simpa using hl)
  · obtain ⟨rfl, rfl⟩ := hI
    rw [List.getElem?_map] at e
    cases q : bs[i]? with
    | none => rw [q] at e; cases e
    | some b =>
      rw [q] at e
      cases e
      have tk : bs.take (i + 1) = bs.take i ++ [b] := by
        rw [List.take_succ, q]
        rfl
      obtain ⟨ρ', a1, a2⟩ := hs b (List.mem_iff_getElem?.mpr ⟨i, q⟩) _ (hok i)
      refine ⟨ρ', a1, true, _, .inl ⟨rfl, rfl, rfl⟩, iteT ⟨_, _, a2, ?_, ?_⟩⟩
      · rw [tk, G.run_snoc, List.map_append]
        rfl
      · rw [tk, G.run_snoc]
  · rw [List.length_map, List.take_length] at hI
    exact hI
theorem set_same {μ : Sto} {k : Nat} {x : List PyData} (h : μ[k]? = some x) : μ = μ.set k x := by
  obtain ⟨h1, h2⟩ := List.getElem?_eq_some_iff.mp h
  rw [← h2, List.set_getElem_self]
section
variable {w : World} {P : Program} {K : PySem.W.Frag} {base : Heap} {mg : Str → Option Value}
noncomputable def mixC : Int → PyData → Int
  | m, .int x => (m * 30097 + x) % 2147483563
  | m, _ => m
noncomputable def cellOf (ns : List Int) (k : Nat) : Int := match ns[k]? with
  | some v => v
  | none => (cutD (ns.map .int) none (some 8)).foldl mixC (7919 * ((k : Int) + 3) * ((k : Int) + 5))
noncomputable abbrev nLC : List Str := ["_law_script", "_law_k", "_law_mixed", "_law_number"]
theorem scLCell : FnScope nLC ["_law_script", "_law_k"] (defScope sLCell) := ⟨rfl, rfl, rfl, by decide +kernel, rfl, by decide +kernel, by decide +kernel⟩
noncomputable def cnCell : Con := fun rs μ r μ' => ∃ (ns : List Int) (k : Nat), rs = [.scr ns, Ii (k : Int)] ∧ k ≤ 100 ∧ r = Ii (cellOf ns k) ∧ μ' = μ
theorem cCell (T : Bt mg) (D : Df K mg "_law_cell" sLCell) : Cal P w K mg base "_law_cell" 1 ["_law_script", "_law_k"] cnCell := by
  refine D.cal scLCell (fun _ _ _ _ _ _ us hl => len2 us hl fun _ _ => rfl) (by decide) (fun rs μ r μ' h => by obtain ⟨_, _, _, _, _, rfl⟩ := h; rfl) fun f cdv A outer s H E hr rs μ r μ' hC => ?_
  obtain ⟨ns, k, rfl, hk, rfl, rfl⟩ := hC
  refine ST.ifR (tLt (nm 1) (bLenScr T (nm 0))) (fun hb => ?_) (fun hb => ?_)
  · have hb' := of_decide_eq_true hb
    have e : ns[k]? = some ns[k] := by
      have : k < ns.length := by omega
      simp [this]
    have e2 : cellOf ns k = ns[k] := by
      unfold cellOf
      rw [e]
    rw [e2]
    exact ST.retP (ixScr (nm 0) (nm 1) e) rfl
  · have hb' := of_decide_eq_false hb
    have e : ns[k]? = none := by
      have : ns.length ≤ k := by omega
      simp [this]
    have e2 : cellOf ns k = (cutD (ns.map .int) none (some 8)).foldl mixC (7919 * ((k : Int) + 3) * ((k : Int) + 5)) := by
      unfold cellOf
      rw [e]
    rw [e2]
    refine ST.set (i := 2) (oMul (oMul EV.int (oAdd (nm 1) EV.int) (.inl (by decide))) (oAdd (nm 1) EV.int) (.inr (by omega))) scLCell.nd rfl (Or.inl rfl) ?_
    generalize hm : 7919 * ((k : Int) + 3) * ((k : Int) + 5) = m0
    generalize hc : cutD (ns.map .int) none (some 8) = cs
    have hcs : ∀ d ∈ cs, ∃ x, d = .int x := fun d hd => by
      rw [← hc] at hd
      obtain ⟨x, _, rfl⟩ := List.mem_map.mp (List.mem_of_mem_drop (List.mem_of_mem_take hd))
      exact ⟨x, rfl⟩
    refine ST.for_ (is := [3]) (IV.lst (EV.eq (EV.slScr (nm 0) PartV.none (PartV.some EV.int)) (congrArg Ls hc))) (fun i ρ ν => (∃ a, ρ = [some (.scr ns), some (Ii (k : Int)), some (Ii ((cs.take i).foldl mixC m0)), a]) ∧ ν = μ') ⟨⟨none, rfl⟩, rfl⟩ (fun i d ρ ν hd hI => ?_) (fun ρ ν hI => ?_)
    · obtain ⟨⟨a, rfl⟩, rfl⟩ := hI
      obtain ⟨x, rfl⟩ := hcs d (List.mem_iff_getElem?.mpr ⟨i, hd⟩)
      refine ⟨_, GV.name (i := 3) scLCell.nd rfl (Or.inl rfl) (by simp), ?_⟩
      refine ST.set (i := 2) (oMod (bIntI T (oAdd (oMul (nm 2) EV.int (.inr (by decide))) (nm 3))) EV.int (by decide)) scLCell.nd rfl (Or.inl rfl) (ST.nil ⟨⟨some (Ii x), ?_⟩, rfl⟩)
      rw [List.take_succ, hd]
      simp only [Option.toList, List.foldl_append, List.foldl_cons, List.foldl_nil]
      rfl
    · obtain ⟨⟨a, rfl⟩, rfl⟩ := hI
      rw [List.take_length]
      exact ST.retP (nm 2) rfl
noncomputable def absI (n : Int) : Int := if n < 0 then -n else n
noncomputable def purseOf (n : Int) : G.Pu := ⟨absI n % 2147483563, if n < 0 ∨ 1000000000000000000 ≤ absI n then absI n else 0, 0⟩
theorem purse_ok (n : Int) : (purseOf n).ok := by
  refine ⟨Int.emod_nonneg _ (by decide), Int.emod_lt_of_pos _ (by decide), ?_⟩
  have h : 0 ≤ absI n := by
    unfold absI
    split <;> omega
  show 0 ≤ (if _ then absI n else 0)
  split
  · exact h
  · exact Int.le_refl 0
theorem scLPurse : FnScope ["_law_number", "_law_great"] ["_law_number"] (defScope sLPurse) := ⟨rfl, rfl, rfl, by decide +kernel, rfl, by decide +kernel, by decide +kernel⟩
noncomputable def cnPurse : List Ent → Sto → List PyData → Prop := fun rs μ xs => ∃ n : Int, rs = [Ii n] ∧ xs = (purseOf n).ds
theorem cPurse (T : Bt mg) (D : Df K mg "_law_purse" sLPurse) : CalF P w K mg base "_law_purse" 1 ["_law_number"] cnPurse := by
  obtain ⟨f, fd, F, hm⟩ := D.ex
  refine ⟨f, fd, F.ok scLPurse (fun vs H Q E h => ?_) (fun cdv A outer s H vs Q E hr h => ?_), hm, F.kp, F.binds fun _ _ _ _ _ _ us hl => len1 us hl fun _ => rfl⟩
  · obtain ⟨w0, μ, rs, xs, _, hv, hl, _⟩ := h
    exact hv.1.trans hl
  · obtain ⟨w0, μ, rs, xs, m, hv, hl, ⟨n, rfl, rfl⟩, q⟩ := h
    have sl := sl_start (N := ["_law_number", "_law_great"]) (rs := [Ii n]) hv (Nat.le_of_ble_eq_true rfl)
    refine ⟨_, pss_cons (ps_set (i := 1) scLPurse.nd rfl (Or.inl rfl) p_ex rfl (Or.inr rfl)) (pss_one (ps_ret p_ex)), ?_⟩
    refine use_ev (μ := μ) (bAbs T (nm 0)) m sl fun v H1 m1 f1 h1 => ?_
    have s1 := (sl.fr f1).set (i := 1) h1
    refine use_evf (μ := μ) (EVF.lst (ds := (purseOf n).ds) (AV.cons (oMod (bIntI T (nm 1)) EV.int (by decide)) (AV.cons (x := Ii (purseOf n).b) ?_ (AV.cons EV.int AV.nil)))) m1 s1 fun p H2 us m2 f2 hp e2 hd => q p H2 us m2 (f1.trans f2) (fresh_of m1 f1 hp) e2 hd
    refine EV.ifx (k := decide (n < 0) || decide ((10 : Int) ^ (18 : Int).toNat ≤ absI n)) (WV.tv (WV.orP (tLt (nm 0) EV.int) (WV.or1 (tGe (nm 1) (oPow EV.int EV.int ⟨by decide, by decide, by decide⟩))))) (fun hk => EV.eq (nm 1) ?_) (fun hk => EV.eq EV.int ?_)
    · rw [Bool.or_eq_true, decide_eq_true_eq, decide_eq_true_eq] at hk
      have e : (purseOf n).b = absI n := if_pos hk
      rw [e]
      rfl
    · have hk' : ¬ (n < 0 ∨ 1000000000000000000 ≤ absI n) := fun z => by
        rw [Bool.or_eq_false_iff, decide_eq_false_iff_not, decide_eq_false_iff_not] at hk
        exact z.elim hk.1 hk.2
      have e : (purseOf n).b = 0 := if_neg hk'
      rw [e]
theorem nth_map {α β : Type} {d : α} {d' : β} (f : α → β) {l : List α} {i : Int} (h0 : 0 ≤ i) (h1 : i < l.length) : G.nth d' (l.map f) i = f (G.nth d l i) := by
  have a := G.nth_some (d := d') (l := l.map f) h0 (by simpa using h1)
  have b := G.nth_some (d := d) h0 h1
  rw [List.getElem?_map, b] at a
  exact (Option.some.inj a).symm
theorem pick_map {α β : Type} {d : α} {d' : β} (f : α → β) {l : List α} {p : G.Pu} (hp : p.ok) (hl : 0 < l.length) : G.pick d' (l.map f) p = (f (G.pick d l p).1, (G.pick d l p).2) := by
  obtain ⟨h1, h2, _⟩ := G.draw_ok (m := l.length) hp (by omega)
  unfold G.pick
  rw [List.length_map, nth_map (d := d) f h1 h2]
theorem EV.pickS {X : Cx} {ρ : REnv} {μ : Sto} {a b : Expr} {p0 pos : Pos} {k n : Nat} {p : G.Pu} {l : List Str} (C1 : Cal X.prog X.w X.K X.mg X.base "_law_pick" n ["_law_purse_here", "_law_menu"] cnPick) (hr : Room n X.A) (ha : EV X a ρ μ (.ptr k) μ) (hb : EV X b ρ μ (Ls (l.map .str)) μ) (hk : μ[k]? = some p.ds) (hp : p.ok) (h1 : 0 < l.length) (h2 : l.length ≤ 100000)
    (hg : Gl X "_law_pick" := by rfl) (he : starEach [a, b] X.env = (false, eval a X.env) :: starEach [b] X.env := by rfl) (he2 : starEach [b] X.env = (false, eval b X.env) :: starEach [] X.env := by rfl) (hpl : (backTo pos (starEach [b] X.env)).any (·.1) = false := by rfl) : EV X (.Call (.Name "_law_pick" p0) [a, b] [] pos) ρ μ (Ss (G.pick Str.empty l p).1) (μ.set k (G.pick Str.empty l p).2.ds) := by
  have e := pick_map (d := Str.empty) (d' := PyData.none) PyData.str hp h1
  refine EV.call C1 hr (AV.cons ha (AV.cons hb AV.nil he2) he) ⟨k, p, _, l.map .str, rfl, ⟨hk, hp, .inl rfl, by simpa using h1, by simpa using h2⟩, ?_, ?_⟩ rfl hg (by decide) he hpl
  · rw [e]
  · rw [e]
theorem words_split : Txt.split ("join take clear call plan base all last before left right on of a a1 z9" : Str) " " = G.words := by decide +kernel
theorem signs_str : strD (M.letters ++ M.digits) = G.signs.map fun c => .str ⟨#[c]⟩ := rfl
theorem signs_eq : ("abcdefghijklmnopqrstuvwxyz0123456789" : Str) = M.letters ++ M.digits := by decide +kernel
theorem join_nil : ∀ cs : List Nat, TL.joinL [] (cs.map fun c => [c]) = cs
  | [] => rfl
  | [c] => rfl
  | c :: d :: cs => by
    have := join_nil (d :: cs)
    show [c] ++ [] ++ TL.joinL [] ((d :: cs).map fun c => [c]) = _
    rw [this]
    rfl
theorem join_signs (c : Nat) (cs : List Nat) : (⟨#[c]⟩ : Str) ++ Txt.join "" (cs.map fun c => ⟨#[c]⟩) = ⟨(c :: cs).toArray⟩ := by
  have h : Txt.join (SX.S []) ((cs.map fun c => [c]).map SX.S) = SX.S cs := by rw [SX.join_S, join_nil]
  rw [List.map_map] at h
  have h2 : Txt.join "" (cs.map fun c => (⟨#[c]⟩ : Str)) = SX.S cs := h
  rw [h2]
  exact SX.S_cat [c] cs
end
end J
namespace J
open PySem PySem.Spec
open PyProof.Rows L2
noncomputable abbrev CDraw (P : Program) (w : World) (K : PySem.W.Frag) (mg : Str → Option Value) (base : Heap) := Cal P w K mg base "_law_draw" 1 ["_law_purse_here", "_law_many"] cnDraw
noncomputable abbrev CPick (P : Program) (w : World) (K : PySem.W.Frag) (mg : Str → Option Value) (base : Heap) := Cal P w K mg base "_law_pick" 2 ["_law_purse_here", "_law_menu"] cnPick
theorem sset {μ : Sto} {k : Nat} {a b : List PyData} : (μ.set k a).set k b = μ.set k b := by rw [List.set_set]
theorem EV.draw {X : Cx} {ρ : REnv} {μ : Sto} {a b : Expr} {p0 pos : Pos} {k n : Nat} {p : G.Pu} {m : Int} (C1 : Cal X.prog X.w X.K X.mg X.base "_law_draw" 1 ["_law_purse_here", "_law_many"] cnDraw) (hr : Room n X.A) (ha : EV X a ρ μ (.ptr k) μ) (hb : EV X b ρ μ (Ii m) μ) (hk : μ[k]? = some p.ds) (hp : p.ok) (h1 : 0 < m := by decide) (h2 : m ≤ 100000 := by decide) (hn : 1 ≤ n := by decide)
    (hg : Gl X "_law_draw" := by rfl) (he : starEach [a, b] X.env = (false, eval a X.env) :: starEach [b] X.env := by rfl) (he2 : starEach [b] X.env = (false, eval b X.env) :: starEach [] X.env := by rfl) (hpl : (backTo pos (starEach [b] X.env)).any (·.1) = false := by rfl) : EV X (.Call (.Name "_law_draw" p0) [a, b] [] pos) ρ μ (Ii (G.draw m p).1) (μ.set k (G.draw m p).2.ds) :=
  EV.call C1 (hr.mono hn) (AV.cons ha (AV.cons hb AV.nil he2) he) ⟨k, p, m, rfl, ⟨hk, hp, h1, h2⟩, rfl, rfl⟩ rfl hg (by decide) he hpl
theorem EV.drawE {X : Cx} {ρ : REnv} {μ : Sto} {a b : Expr} {p0 pos : Pos} {k n : Nat} {p q : G.Pu} {m i : Int} (C1 : Cal X.prog X.w X.K X.mg X.base "_law_draw" 1 ["_law_purse_here", "_law_many"] cnDraw) (hi : (G.draw m p).1 = i) (hq : (G.draw m p).2 = q) (hr : Room n X.A) (ha : EV X a ρ μ (.ptr k) μ) (hb : EV X b ρ μ (Ii m) μ) (hk : μ[k]? = some p.ds) (hp : p.ok) (h1 : 0 < m := by decide) (h2 : m ≤ 100000 := by decide) (hn : 1 ≤ n := by decide)
    (hg : Gl X "_law_draw" := by rfl) (he : starEach [a, b] X.env = (false, eval a X.env) :: starEach [b] X.env := by rfl) (he2 : starEach [b] X.env = (false, eval b X.env) :: starEach [] X.env := by rfl) (hpl : (backTo pos (starEach [b] X.env)).any (·.1) = false := by rfl) : EV X (.Call (.Name "_law_draw" p0) [a, b] [] pos) ρ μ (Ii i) (μ.set k q.ds) := by
  subst hi
  subst hq
  exact EV.draw C1 hr ha hb hk hp h1 h2 hn hg he he2 hpl
theorem ap_set {μ : Sto} {k : Nat} {x : List PyData} {rest : Sto} (h : k < μ.length) : (μ ++ rest).set k x = μ.set k x ++ rest := by rw [List.set_append_left _ _ h]
theorem ap_get {μ : Sto} {k : Nat} {rest : Sto} (h : k < μ.length) : (μ ++ rest)[k]? = μ[k]? := List.getElem?_append_left h
theorem at_last {μ : Sto} {x : List PyData} {rest : Sto} : (μ ++ x :: rest)[μ.length]? = some x := by simp
theorem set_last {μ : Sto} {x y : List PyData} {rest : Sto} : (μ ++ x :: rest).set μ.length y = μ ++ y :: rest := by simp
theorem EV.st {X : Cx} {ρ : REnv} {μ μ1 μ' : Sto} {e : Expr} {r : Ent} (h : EV X e ρ μ r μ1) (q : μ1 = μ') : EV X e ρ μ r μ' := q ▸ h
theorem seqI {j n : Nat} (h : j < n) : seqIndex? (j : Int) n = some j := by
  have h0 : ¬ ((j : Int) < 0) := by omega
  have h1 : (0 : Int) ≤ (j : Int) := by omega
  have h2 : ((j : Int) < (n : Int)) := by omega
  unfold seqIndex?
  simp [h0, h1, h2]
  try omega
theorem LCV.mapT {X : Cx} {ρ : REnv} {μ μ1 : Sto} {tg iter elt : Expr} {scope : Scope} {own : List (Str × Nat)} {α : Type} {bs : List α} (h : α → PyData) (g : α → PyData) (hi : IV X tg iter ρ μ (bs.map h) μ1)
    (hs : ∀ b ∈ bs, ∃ ρ', (∀ s H C cl fp, GV (blkX X scope s H C cl fp) tg (h b) (wipeE ρ (own.map (·.2))) ρ' (own.map (·.2))) ∧ (∀ s H C cl fp, EV (blkX X scope s H C cl fp) elt ρ' μ1 (.dat (g b)) μ1)) (hl : bs.length ≤ 100000) : LCV X elt tg iter [] scope own ρ μ (bs.map g) μ1 := by
  refine LCV.mk hi (fun i acc ν => acc = (bs.take i).map g ∧ ν = μ1) ⟨by simp, rfl⟩ (fun i d acc ν e hI => ?_) (fun acc ν hI => ?_) (by simpa using hl)
  · obtain ⟨rfl, rfl⟩ := hI
    rw [List.getElem?_map] at e
    cases q : bs[i]? with
    | none => rw [q] at e; cases e
    | some b =>
      rw [q] at e
      cases e
      obtain ⟨ρ', a1, a2⟩ := hs b (List.mem_iff_getElem?.mpr ⟨i, q⟩)
      refine ⟨ρ', a1, true, _, .inl ⟨rfl, rfl, rfl⟩, iteT ⟨_, _, a2, ?_, rfl⟩⟩
      rw [List.take_succ, q]
      simp
  · rw [List.length_map, List.take_length] at hI
    exact hI
theorem IV.eqD {X : Cx} {tg e : Expr} {ρ : REnv} {μ μ1 : Sto} {ds es : List PyData} (h : IV X tg e ρ μ ds μ1) (q : ds = es) : IV X tg e ρ μ es μ1 := q ▸ h
theorem log_dig {i : Int} (h : 0 ≤ i ∧ i ≤ 9) : i.natAbs.log2 < 1920 := log_small (by
  have h1 : i.natAbs ≤ 9 := by omega
  exact Nat.lt_of_le_of_lt h1 (by decide))
end J
namespace N
open PySem J L2
noncomputable def Lo (s : Str) : Prop := ∀ c ∈ TL.tl s, c < 256
theorem lo_ok {s : Str} (h : Lo s) : PyData.strOk s = true := by
  unfold PyData.strOk
  rw [← Array.all_toList, List.all_eq_true]
  intro c hc
  have := h c hc
  exact decide_eq_true (by omega)
theorem lo_join {sep : Str} {ys : List Str} (h1 : Lo sep) (h2 : ∀ y ∈ ys, Lo y) : Lo (Txt.join sep ys) := fun c hc => by
  rcases join_mem hc with z | ⟨y, hy, z⟩
  · exact h1 c z
  · exact h2 y hy c z
theorem lo_name {s : Str} (h : M.nameOk s = true) : Lo s := fun c hc => by
  have := name_free h c hc
  omega
theorem lo_dig {i : Int} (h0 : 0 ≤ i) (h9 : i ≤ 9) : Lo (M.strI i) := by
  have h : ∀ k : Fin 10, ∀ c ∈ TL.tl (M.strI (k.val : Int)), c < 256 := by decide +kernel
  have := h ⟨i.toNat, by omega⟩
  rwa [show ((i.toNat : Nat) : Int) = i by omega] at this
structure Sm (a b : Nat) (d : PyData) : Prop where
  lay : d.canLay0 = true
  shw : d.showable = true
  dep : d.depth ≤ a
  len : rlen d ≤ b
theorem Sm.str {s : Str} {n : Nat} (h : Lo s) (hl : s.length ≤ n) : Sm 0 (10 * n + 2) (.str s) := ⟨by simp [PyData.canLay0, lo_ok h], by simp [PyData.showable], by simp [PyData.depth], by simp only [rlen]; omega⟩
theorem Sm.int {i : Int} (h0 : 0 ≤ i) (h9 : i ≤ 9) : Sm 0 1 (.int i) := ⟨rfl, by simp only [PyData.showable]; exact decide_eq_true (log_dig ⟨h0, h9⟩), by simp [PyData.depth], by simp only [rlen]; exact Nat.le_of_eq (strI_len i h0 h9)⟩
theorem Sm.mono {a b a2 b2 : Nat} {d : PyData} (h : Sm a b d) (h1 : a ≤ a2) (h2 : b ≤ b2) : Sm a2 b2 d := ⟨h.lay, h.shw, Nat.le_trans h.dep h1, Nat.le_trans h.len h2⟩
theorem sm_all {a b : Nat} : ∀ {xs : List PyData}, (∀ x ∈ xs, Sm a b x) → PyData.canLayAll0 xs = true ∧ PyData.showableAll xs = true ∧ PyData.depthAll xs ≤ a ∧ rlenAll xs ≤ xs.length * (b + 2)
  | [], _ => ⟨rfl, rfl, by simp [PyData.depthAll], Nat.zero_le _⟩
  | x :: xs, h => by
    obtain ⟨h1, h2, h3, h4⟩ := sm_all (xs := xs) fun y hy => h y (List.mem_cons_of_mem _ hy)
    have g := h x List.mem_cons_self
    have g3 := g.dep
    have g4 := g.len
    refine ⟨by simp [PyData.canLayAll0, h1, g.lay], by simp [PyData.showableAll, h2, g.shw], by simp only [PyData.depthAll]; omega, ?_⟩
    simp only [rlenAll, List.length_cons]
    rw [Nat.add_mul]
    omega
theorem Sm.list {a b n : Nat} {xs : List PyData} (h : ∀ x ∈ xs, Sm a b x) (hn : xs.length ≤ n) : Sm (a + 1) (3 + n * (b + 2)) (.list xs) := by
  obtain ⟨h1, h2, h3, h4⟩ := sm_all h
  have : xs.length * (b + 2) ≤ n * (b + 2) := Nat.mul_le_mul_right _ hn
  exact ⟨by simp only [PyData.canLay0]; exact h1, by simp only [PyData.showable]; exact h2, by simp only [PyData.depth]; omega, by simp only [rlen]; omega⟩
theorem Sm.tuple {a b n : Nat} {xs : List PyData} (h : ∀ x ∈ xs, Sm a b x) (hn : xs.length ≤ n) : Sm (a + 1) (3 + n * (b + 2)) (.tuple xs) := by
  obtain ⟨h1, h2, h3, h4⟩ := sm_all h
  have : xs.length * (b + 2) ≤ n * (b + 2) := Nat.mul_le_mul_right _ hn
  exact ⟨by simp only [PyData.canLay0]; exact h1, by simp only [PyData.showable]; exact h2, by simp only [PyData.depth]; omega, by simp only [rlen]; omega⟩
theorem Sm.shwD {a b : Nat} {d : PyData} (h : Sm a b d) (h1 : isSeq d = true) (h2 : a ≤ 60) (h3 : b ≤ 10000000) : Shw d := ⟨h1, h.lay, h.shw, Nat.le_trans h.dep h2, Nat.le_trans h.len h3⟩
end N
namespace M
open PySem J L2
noncomputable def swap (rs : List PyData) (i : Nat) (t : PyData) : List PyData := rs.take i ++ (t :: rs.drop (i + 1))
noncomputable def changePlan (p : PyData) (i : Nat) (t : Str) : PyData := match p with
  | .tuple [n, g, b, .tuple rs] => .tuple [n, g, b, .tuple (swap rs i (.str t))]
  | _ => .none
noncomputable def change (ps : List PyData) (j i : Nat) (t : Str) : List PyData := swap ps j (changePlan (ps.getD j .none) i t)
end M
namespace J
open PySem PySem.Spec
open PyProof.Rows L2
end J
namespace N
open PySem J L2
structure Sm2 (a b : Nat) (d : PyData) : Prop where
  lay : lay2 d = true
  shw : d.showable = true
  dep : d.depth ≤ a
  len : rlen2 d ≤ b
theorem Sm2.str {s : Str} {n : Nat} (h : Lo s) (hl : s.length ≤ n) : Sm2 0 (10 * n + 2) (.str s) := ⟨by simp [lay2, lo_ok h], by simp [PyData.showable], by simp [PyData.depth], by simp only [rlen2]; omega⟩
theorem sm2_all {a b : Nat} : ∀ {xs : List PyData}, (∀ x ∈ xs, Sm2 a b x) → lay2All xs = true ∧ PyData.showableAll xs = true ∧ PyData.depthAll xs ≤ a ∧ rlen2All xs ≤ xs.length * (b + 2)
  | [], _ => ⟨rfl, rfl, by simp [PyData.depthAll], Nat.zero_le _⟩
  | x :: xs, h => by
    obtain ⟨h1, h2, h3, h4⟩ := sm2_all (xs := xs) fun y hy => h y (List.mem_cons_of_mem _ hy)
    have g := h x List.mem_cons_self
    have g3 := g.dep
    have g4 := g.len
    refine ⟨by simp [lay2All, h1, g.lay], by simp [PyData.showableAll, h2, g.shw], by simp only [PyData.depthAll]; omega, ?_⟩
    simp only [rlen2All, List.length_cons]
    rw [Nat.add_mul]
    omega
theorem Sm2.list {a b n : Nat} {xs : List PyData} (h : ∀ x ∈ xs, Sm2 a b x) (hn : xs.length ≤ n) : Sm2 (a + 1) (3 + n * (b + 2)) (.list xs) := by
  obtain ⟨h1, h2, h3, h4⟩ := sm2_all h
  have : xs.length * (b + 2) ≤ n * (b + 2) := Nat.mul_le_mul_right _ hn
  exact ⟨by simp only [lay2]; exact h1, by simp only [PyData.showable]; exact h2, by simp only [PyData.depth]; omega, by simp only [rlen2]; omega⟩
theorem Sm2.tuple {a b n : Nat} {xs : List PyData} (h : ∀ x ∈ xs, Sm2 a b x) (hn : xs.length ≤ n) : Sm2 (a + 1) (3 + n * (b + 2)) (.tuple xs) := by
  obtain ⟨h1, h2, h3, h4⟩ := sm2_all h
  have : xs.length * (b + 2) ≤ n * (b + 2) := Nat.mul_le_mul_right _ hn
  exact ⟨by simp only [lay2]; exact h1, by simp only [PyData.showable]; exact h2, by simp only [PyData.depth]; omega, by simp only [rlen2]; omega⟩
theorem Sm2.sho {a b : Nat} {d : PyData} (h : Sm2 a b d) (h2 : a ≤ 60) (h3 : b ≤ 10000000) : Sho2 d := ⟨h.lay, h.shw, Nat.le_trans h.dep h2, Nat.le_trans h.len h3, fun i e => by
  have := h.shw
  rw [e] at this
  simpa only [PyData.showable, decide_eq_true_eq] using this⟩
end N
namespace J
open PySem PySem.Spec
open PyProof.Rows L2
end J
namespace J
open PySem PySem.Spec
open PyProof.Rows L2
section
variable {X : Cx} {W : WX} {ρ : REnv} {μ μ1 μ2 μ3 : Sto} {e o : Expr} {pos p apos kpos : Pos} {n m : Str} {C : Addr} {k : Nat} {cn : ConX} {r : Ent} {oo : Res} {mc : Value} {pm g : Addr} {fd : FuncData} {sp : Sp}
theorem ST.envK {sts : List Stmt} {nn : Nat} {ρ' : REnv} {Q : Out → Prop} (e : ρ = ρ') (h : ST X W nn sts ρ' μ Q) : ST X W nn sts ρ μ Q := e ▸ h
end
end J
namespace J
open PySem PySem.Spec
open PyProof.Rows L2
end J
namespace GR
open PySem J L2 M
structure Piece (s : Str) : Prop where
  len : 1 ≤ s.length ∧ s.length ≤ 4
  abc : ∀ c ∈ s.cps.toList, c ∈ M.letters.cps.toList
noncomputable def from_ (g : Str × Int) (k : Nat) : Nat := if g.1 = "last" then k + 1 - g.2.toNat else 0
noncomputable def to_ (g : Str × Int) (k : Nat) : Nat := if g.1 = "before" then k else k + 1
noncomputable def dueT (g : Str × Int) (ws : List Str) (k : Nat) : Str := Txt.join Str.empty ((ws.take (to_ g k)).drop (from_ g k))
end GR
namespace J
open PySem PySem.Spec
open PyProof.Rows L2
section
variable {w : World} {P : Program} {K : PySem.W.Frag} {base : Heap} {mg : Str → Option Value} {C : Addr}
theorem scPc : FnScope ["value", "sign"] ["value"] (defScope sIsPiece) := ⟨rfl, rfl, rfl, by decide +kernel, rfl, by decide +kernel, by decide +kernel⟩
noncomputable abbrev nCp : List Str := ["pieces", "at", "piece"]
theorem scCp : FnScope nCp ["pieces"] (defScope sCheckPieces) := ⟨rfl, rfl, rfl, by decide +kernel, rfl, by decide +kernel, by decide +kernel⟩
theorem scGs : FnScope ["goal", "place", "many"] ["goal", "place"] (defScope sGoalSpan) := ⟨rfl, rfl, rfl, by decide +kernel, rfl, by decide +kernel, by decide +kernel⟩
noncomputable def cnGs : Con := fun rs μ r μ' => ∃ (g : Str × Int) (k : Nat), rs = [Ss (G.aim g), Ii (k : Int)] ∧ GL.Gg g ∧ r = Tp [.int (GR.from_ g k : Int), .int (GR.to_ g k : Int)] ∧ μ' = μ
theorem cGs (T : Bt mg) (C1 : Cal P w K mg base "last_of" 1 ["goal"] cnLo) (D : Df K mg "goal_span" sGoalSpan) : Cal P w K mg base "goal_span" 2 ["goal", "place"] cnGs := by
  refine D.cal scGs (fun _ _ _ _ _ _ us hl => len2 us hl fun _ _ => rfl) (by decide) (fun rs μ r μ' h => by obtain ⟨_, _, _, _, _, rfl⟩ := h; rfl) fun f cdv A outer s H E hr rs μ r μ' hC => ?_
  obtain ⟨g, k, rfl, hg, rfl, rfl⟩ := hC
  have hb0 : eqS (.str (G.aim g)) (.str "before") = decide (g.1 = "before") := by
    rcases hg.k with ⟨e, e2⟩ | ⟨e, e2⟩ | ⟨e, h2, h3⟩
    · obtain ⟨a, b⟩ := g
      dsimp only at e e2
      subst e
      subst e2
      decide +kernel
    · obtain ⟨a, b⟩ := g
      dsimp only at e e2
      subst e
      subst e2
      decide +kernel
    · obtain ⟨a, b⟩ := g
      dsimp only at e h2 h3
      subst e
      have : ∀ i : _root_.Fin 5, eqS (.str (G.aim ("last", (i.val : Int)))) (.str "before") = decide ((("last" : Str)) = "before") := by decide +kernel
      have h := this ⟨b.toNat, by omega⟩
      dsimp only at h
      rwa [show ((b.toNat : Nat) : Int) = b by omega] at h
  refine ST.set (i := 2) (EV.call C1 hr (AV.cons (nm 0) AV.nil) ⟨g, rfl, hg, rfl, rfl⟩) scGs.nd rfl (Or.inl rfl) ?_
  refine ST.envK (ρ' := [some (Ss (G.aim g)), some (Ii (k : Int)), some (.dat (lastG g))]) rfl ?_
  have e1 : (k : Int) + 1 = ((k + 1 : Nat) : Int) := by omega
  refine ST.ifR (k := decide (g.1 = "before")) (TV.eq (tEq (d := .str (G.aim g)) (d2 := .str "before") (nm 0) EV.str) hb0) (fun hb => ?_) (fun hb => ?_)
  · have h := of_decide_eq_true hb
    refine ST.retP (r' := Tp [.int (GR.from_ g k : Int), .int (GR.to_ g k : Int)]) (EV.eq (EV.tup (ds := [.int 0, .int (k : Int)]) (AV.cons EV.int (AV.cons (nm 1) AV.nil))) ?_) rfl
    unfold GR.from_ GR.to_
    rw [if_pos h, if_neg (fun z => by rw [h] at z; exact absurd z (by decide))]
    rfl
  · have h := of_decide_eq_false hb
    refine ST.ifR (k := isNone (lastG g)) (tIsN (nm 2)) (fun hn => ?_) (fun hn => ?_)
    · have hl : ¬ g.1 = "last" := fun z => by
        unfold lastG at hn
        rw [if_pos z] at hn
        cases hn
      refine ST.retP (r' := Tp [.int (GR.from_ g k : Int), .int (GR.to_ g k : Int)]) (EV.eq (EV.tup (ds := [.int 0, .int ((k : Int) + 1)]) (AV.cons EV.int (AV.cons (oAdd (nm 1) EV.int) AV.nil))) ?_) rfl
      unfold GR.from_ GR.to_
      rw [if_neg h, if_neg hl, e1]
      rfl
    · have hl : g.1 = "last" := by
        refine Decidable.byContradiction fun z => ?_
        unfold lastG at hn
        rw [if_neg z] at hn
        cases hn
      have hg2 : 1 ≤ g.2 ∧ g.2 ≤ 4 := by
        rcases hg.k with ⟨z, _⟩ | ⟨z, _⟩ | ⟨_, z⟩
        · rw [z] at hl; exact absurd hl (by decide)
        · rw [z] at hl; exact absurd hl (by decide)
        · exact z
      have hmx : (if (k : Int) + 1 - g.2 > 0 then (k : Int) + 1 - g.2 else 0) = ((k + 1 - g.2.toNat : Nat) : Int) := by
        split <;> omega
      have hlg : lastG g = .int g.2 := if_pos hl
      refine ST.retP (r' := Tp [.int (GR.from_ g k : Int), .int (GR.to_ g k : Int)]) (EV.eq (EV.tup (ds := [.int ((k + 1 - g.2.toNat : Nat) : Int), .int ((k : Int) + 1)]) (AV.cons (EV.eq (EV.callB (call_max2 rfl) T.max (by decide +kernel) (AV.cons EV.int (AV.cons (oSub (oAdd (nm 1) EV.int) (EV.eq (nm 2) (congrArg Ent.dat hlg))) AV.nil)) cv_max) (congrArg Ii hmx)) (AV.cons (oAdd (nm 1) EV.int) AV.nil))) ?_) rfl
      unfold GR.from_ GR.to_
      rw [if_neg h, if_pos hl, e1]
theorem cutSE {α : Type} (f : α → PyData) (ws : List α) (i k : Nat) (h : k ≤ ws.length) : cutD (ws.map f) (some (i : Int)) (some (k : Int)) = ((ws.take k).drop i).map f := by
  unfold cutD
  rw [HT.sIx_nat, HT.sIx_nat, List.length_map, List.map_drop, List.map_take, Nat.min_eq_left h, List.drop_take]
  rcases Nat.le_total i ws.length with hi | hi
  · rw [Nat.min_eq_left hi]
  · rw [Nat.min_eq_right hi, show k - ws.length = 0 by omega, show k - i = 0 by omega]
    simp
theorem EV.joinT {X : Cx} {ρ : REnv} {μ μ1 μ2 : Sto} {o e : Expr} {apos pos : Pos} {s : Str} {ys : List Str} (ho : EV X o ρ μ (Ss s) μ1) (he : EV X e ρ μ1 (Tp (ys.map .str)) μ2) (h1 : (ys.map (·.length)).sum + ys.length * s.length ≤ 16777216)
    (hs : starEach [e] X.env = [(false, eval e X.env)] := by rfl) (hbase : attributeBase o "join" X.env (eval o X.env) = eval o X.env := by rfl) (hline : (apos.endLine == pos.line) = true := by rfl) : EV X (.Call (.Attribute o "join" apos) [e] [] pos) ρ μ (Ss (Txt.join s ys)) μ2 :=
  EV.m1 F.slot_str_join F.type_str_join mt_join ho he (fun w H u m hu Q q => by
    cases hu with
    | tup ha hd =>
      rw [dqAll_strs' hd] at ha
      exact ⟨s, _, ys, rfl, rfl, .inr (SqT.of (dl_some ha).2), h1, q _ _ m .refl (Dq.str _)⟩) hs hbase hline
noncomputable abbrev nGtx : List Str := ["goal", "words", "spans", "place", "start", "end"]
theorem scGtx : FnScope nGtx ["goal", "words"] (defScope sGoalTexts) := ⟨rfl, rfl, rfl, by decide +kernel, rfl, by decide +kernel, by decide +kernel⟩
noncomputable def cnGtx : Con := fun rs μ r μ' => ∃ (g : Str × Int) (ws : List Str), rs = [Ss (G.aim g), Tp (ws.map .str)] ∧ (GL.Gg g ∧ ws.length ≤ 100 ∧ ∀ s ∈ ws, s.length ≤ 1000) ∧ r = Ls ((List.range ws.length).map fun k => .str (GR.dueT g ws k)) ∧ μ' = μ
theorem cGtx (T : Bt mg) (C1 : Cal P w K mg base "goal_span" 2 ["goal", "place"] cnGs) (D : Df K mg "goal_texts" sGoalTexts) : Cal P w K mg base "goal_texts" 3 ["goal", "words"] cnGtx := by
  refine D.cal scGtx (fun _ _ _ _ _ _ us hl => len2 us hl fun _ _ => rfl) (by decide) (fun rs μ r μ' h => by obtain ⟨_, _, _, _, _, rfl⟩ := h; rfl) fun f cdv A outer s H E hr rs μ r μ' hC => ?_
  obtain ⟨g, ws, rfl, ⟨hg, hl, hs⟩, rfl, rfl⟩ := hC
  refine ST.lc (i := 2) (own := [("place", 3)]) (LCV.mapT (bs := List.range ws.length) (fun (k : Nat) => PyData.int (0 + (k : Int))) (fun (k : Nat) => PyData.tuple [.int (GR.from_ g k : Int), .int (GR.to_ g k : Int)]) (IV.eqD (IV.rng1 (j := (ws.length : Int)) (EV.eq (bLenT T (nm 1)) (by rw [List.length_map])) (by omega) (by omega) T.range) (by rw [Int.toNat_natCast]; rfl)) (fun k hk => ⟨_, fun _ _ _ _ _ => GV.name (i := 3) scGtx.nd rfl (Or.inl rfl) (by simp), fun _ _ _ _ _ => EV.call C1 hr (AV.cons (nm 0) (AV.cons (nm 3) AV.nil)) ⟨g, k, by rw [Int.zero_add], hg, rfl, rfl⟩⟩) (by rw [List.length_range]; omega)) rfl scGtx.nd rfl rfl (blkOk_by (N := nGtx) (sc := defScope sGoalTexts) (by decide +kernel)) ?_ rfl
  refine ST.retP (LCV.evf (own := [("start", 4), ("end", 5)]) (LCV.mapT (bs := List.range ws.length) (fun (k : Nat) => PyData.tuple [.int (GR.from_ g k : Int), .int (GR.to_ g k : Int)]) (fun (k : Nat) => PyData.str (GR.dueT g ws k)) (IV.lst (nm 2)) (fun k hk => ⟨_, fun _ _ _ _ _ => GV.tup (GsV.cons (GV.name (i := 4) scGtx.nd rfl (Or.inl rfl) (by simp)) (GsV.cons (GV.name (i := 5) scGtx.nd rfl (Or.inl rfl) (by simp)) GsV.nil)), fun _ _ _ _ _ => ?_⟩) (by rw [List.length_range]; omega)) rfl scGtx.nd (blkOk_by (N := nGtx) (sc := defScope sGoalTexts) (by decide +kernel))).ev rfl
  have hft : GR.from_ g k ≤ GR.to_ g k := by
    unfold GR.from_ GR.to_
    rcases hg.k with ⟨z, _⟩ | ⟨z, _⟩ | ⟨z, h2, h3⟩ <;> rw [z]
    · rw [if_neg (by decide)]; omega
    · rw [if_neg (by decide)]; omega
    · rw [if_pos rfl, if_neg (by decide)]; omega
  have hkl := List.mem_range.mp hk
  have hto : GR.to_ g k ≤ ws.length := by
    unfold GR.to_
    split <;> omega
  unfold GR.dueT
  have hys : ∀ s ∈ (ws.take (GR.to_ g k)).drop (GR.from_ g k), s.length ≤ 1000 := fun s h => hs s (List.mem_of_mem_take (List.mem_of_mem_drop h))
  have hsum := sum_le (fun s : Str => s.length) 1000 _ hys
  have hyl : ((ws.take (GR.to_ g k)).drop (GR.from_ g k)).length ≤ 100 := by
    rw [List.length_drop, List.length_take]
    omega
  refine EV.joinT EV.str (EV.eq (EV.slT (nm 1) (PartV.some (nm 4)) (PartV.some (nm 5))) (congrArg Tp (cutSE PyData.str ws _ _ hto))) ?_
  have e0 : (Str.empty).length = 0 := rfl
  have : ((ws.take (GR.to_ g k)).drop (GR.from_ g k)).length * (Str.empty).length = 0 := by rw [e0, Nat.mul_zero]
  show _ + ((ws.take (GR.to_ g k)).drop (GR.from_ g k)).length * (Str.empty).length ≤ _
  omega
end
end J
namespace J
open PySem PySem.Spec
open PyProof.Rows L2
structure KlR (K : PySem.W.Frag) (R : Addr) : Prop where
  cl : Cls K R
  a1 : NoAttr K R "source"
  a2 : NoAttr K R "called"
  a3 : NoAttr K R "pieces"
  a4 : NoAttr K R "held"
  a5 : NoAttr K R "behind"
  a6 : NoAttr K R "told"
  a7 : NoAttr K R "whole"
noncomputable def rowD (C : Addr) (ps : List PyData) (n : Str) (pcs held : List PyData) (behind : Int) (told : List PyData) (whole : Int) : List (Str × PyData) := [("source", obD C [("kept", .tuple ps)]), ("called", .str n), ("pieces", .tuple pcs), ("held", .tuple held), ("behind", .int behind), ("told", .tuple told), ("whole", .int whole)]
noncomputable def dueL (g : Str × Int) (ws : List Str) : List PyData := (List.range ws.length).map fun k => .str (GR.dueT g ws k)
section
variable {w : World} {P : Program} {K : PySem.W.Frag} {base : Heap} {mg : Str → Option Value} {C R : Addr}
theorem scRowInit : FnScope ["self", "book", "name", "pieces", "plan"] ["self", "book", "name", "pieces"] (defScope sRowInit) := ⟨rfl, rfl, rfl, by decide +kernel, rfl, by decide +kernel, by decide +kernel⟩
noncomputable def cnFld (R : Addr) (f : Str) : Con := fun rs μ r μ' => ∃ (fs : List (Str × PyData)) (d : PyData), rs = [.obj R fs] ∧ fs.lookup f = some d ∧ r = .dat d ∧ μ' = μ
end
end J
namespace N
open PySem J L2 PyProof.Rows
noncomputable def OkS (s : Str) : Prop := ∀ c ∈ s.cps.toList, c < 0x110000
theorem okS_iff {s : Str} : OkS s ↔ PyData.strOk s = true := by
  unfold PyData.strOk OkS
  rw [← Array.all_toList, List.all_eq_true]
  exact ⟨fun h c hc => decide_eq_true (h c hc), fun h c hc => of_decide_eq_true (h c hc)⟩
theorem char_lt (c : Char) : c.toNat < 0x110000 := by
  have h := c.valid
  have e : c.val.toNat = c.toNat := rfl
  rcases h with h | h
  · omega
  · omega
theorem okS_of (s : String) : OkS (s : Str) := fun c hc => by
  rw [signs_ofString] at hc
  obtain ⟨ch, _, rfl⟩ := List.mem_map.mp hc
  exact char_lt ch
theorem okS_app {a b : Str} (h : OkS a) (g : OkS b) : OkS (a ++ b) := fun c hc => (mem_cps_append.mp hc).elim (h c) (g c)
theorem okS_join {sep : Str} {ts : List Str} (h : OkS sep) (g : ∀ t ∈ ts, OkS t) : OkS (Str.join sep ts) := fun c hc => by
  rcases (mem_join sep c ts).mp hc with ⟨t, ht, z⟩ | ⟨_, z⟩
  · exact g t ht c z
  · exact h c z
theorem repr_fold (q : Nat) : ∀ (l : List Nat) (acc : Array Nat), (l.foldl (fun out c => out ++ (Builtin.Str.reprChar q c).toArray) acc).toList = acc.toList ++ l.flatMap (Builtin.Str.reprChar q)
  | [], acc => by simp
  | c :: r, acc => by
    rw [List.foldl_cons, repr_fold q r]
    simp
theorem repr_char {q c d : Nat} (hq : q < 0x110000) (hc : c < 0x110000) (h : d ∈ Builtin.Str.reprChar q c) : d < 0x110000 := by
  have hex : ∀ (w : Nat) (x : Nat), x ∈ (List.replicate w 48 ++ (Nat.toDigits 16 c).map Char.toNat) → x < 0x110000 := fun w x hx => by
    rcases List.mem_append.mp hx with z | z
    · have := List.eq_of_mem_replicate z
      omega
    · obtain ⟨ch, _, rfl⟩ := List.mem_map.mp z
      exact char_lt ch
  have two : ∀ x : Nat, x < 0x110000 → d ∈ [92, x] → d < 0x110000 := fun x hx hd => by
    rcases List.mem_cons.mp hd with rfl | hd
    · decide
    · rw [List.mem_singleton.mp hd]
      exact hx
  unfold Builtin.Str.reprChar at h
  dsimp only at h
  split at h
  · exact two c hc h
  · split at h
    · exact two 110 (by decide) h
    · split at h
      · exact two 114 (by decide) h
      · split at h
        · exact two 116 (by decide) h
        · split at h
          · rw [List.mem_singleton.mp h]
            exact hc
          · split at h
            · rcases List.mem_append.mp h with z | z
              · exact two 120 (by decide) z
              · exact hex _ _ z
            · split at h
              · rcases List.mem_append.mp h with z | z
                · exact two 117 (by decide) z
                · exact hex _ _ z
              · rcases List.mem_append.mp h with z | z
                · exact two 85 (by decide) z
                · exact hex _ _ z
theorem quote_lt (x : Str) : reprQuote x < 0x110000 := by
  unfold reprQuote
  split <;> decide
theorem okS_repr {x : Str} (h : OkS x) : OkS (reprText x) := by
  intro c hc
  unfold reprText at hc
  have hq := quote_lt x
  simp only [Array.toList_push] at hc
  rw [← Array.foldl_toList, repr_fold] at hc
  simp only [List.mem_append, List.mem_cons, List.not_mem_nil, or_false, List.mem_flatMap] at hc
  rcases hc with (rfl | ⟨d, hd, hm⟩) | rfl
  · exact hq
  · exact repr_char hq (h d hd) hm
  · exact hq
mutual
theorem okS_shown : ∀ d : PyData, d.canLay0 = true → OkS d.shown
  | .none, _ => by rw [PyData.shown_none]; exact okS_of _
  | .bool b, _ => by rw [PyData.shown_bool]; cases b <;> exact okS_of _
  | .int i, _ => by rw [PyData.shown_int]; exact okS_of _
  | .str x, h => by
    rw [PyData.shown_str]
    exact okS_repr (okS_iff.mpr (by simpa only [PyData.canLay0] using h))
  | .list xs, h => by
    rw [PyData.shown_list]
    exact okS_app (okS_app (okS_of _) (okS_join (okS_of _) (okS_all xs (by simpa only [PyData.canLay0] using h)))) (okS_of _)
  | .tuple xs, h => by
    rw [PyData.shown_tuple]
    exact okS_app (okS_app (okS_of _) (okS_join (okS_of _) (okS_all xs (by simpa only [PyData.canLay0] using h)))) (okS_of _)
  | .dict _, h => by simp [PyData.canLay0] at h
theorem okS_all : ∀ xs : List PyData, PyData.canLayAll0 xs = true → ∀ t ∈ PyData.shownAll xs, OkS t
  | [], _, t, ht => by rw [PyData.shownAll_nil] at ht; exact absurd ht (by simp)
  | x :: r, h, t, ht => by
    simp only [PyData.canLayAll0, Bool.and_eq_true] at h
    rw [PyData.shownAll_cons, List.mem_cons] at ht
    rcases ht with rfl | ht
    · exact okS_shown x h.1
    · exact okS_all r h.2 t ht
end
theorem shaped_strs {ys : List Str} (h : ∀ y ∈ ys, PyData.strOk y = true) : SeqAt.shaped (.list (ys.map .str)) = true := by
  have a : ∀ zs : List Str, (∀ y ∈ zs, PyData.strOk y = true) → PyData.canLayAll0 (zs.map .str) = true ∧ PyData.depthAll (zs.map .str) ≤ 0 := by
    intro zs
    induction zs with
    | nil => exact fun _ => ⟨rfl, Nat.le_of_eq (by simp [PyData.depthAll])⟩
    | cons z zs ih =>
      intro hz
      obtain ⟨h1, h2⟩ := ih fun y hy => hz y (List.mem_cons_of_mem _ hy)
      exact ⟨by simp [PyData.canLayAll0, PyData.canLay0, h1, hz z List.mem_cons_self], by simp [PyData.depthAll, PyData.depth] at h2 ⊢; exact h2⟩
  obtain ⟨h1, h2⟩ := a ys h
  unfold SeqAt.shaped
  rw [Bool.and_eq_true]
  exact ⟨by simp only [PyData.canLay0]; exact h1, decide_eq_true (by simp only [PyData.depth]; omega)⟩
theorem eqv_strs (ys : List Str) (h : ∀ y ∈ ys, PyData.strOk y = true) : PyData.eqv (.list (ys.map .str)) (.list (ys.map .str)) = true := by
  have := shaped_strs h
  unfold SeqAt.shaped at this
  rw [Bool.and_eq_true] at this
  exact SeqAt.eqv_refl _ this.1
end N
namespace N
open PySem J L2
mutual
theorem okS_shown2 : ∀ d : PyData, lay2 d = true → OkS d.shown
  | .none, _ => by rw [PyData.shown_none]; exact okS_of _
  | .bool b, _ => by rw [PyData.shown_bool]; cases b <;> exact okS_of _
  | .int i, _ => by rw [PyData.shown_int]; exact okS_of _
  | .str x, h => by
    rw [PyData.shown_str]
    exact okS_repr (okS_iff.mpr (by simpa only [lay2] using h))
  | .list xs, h => by
    rw [PyData.shown_list]
    exact okS_app (okS_app (okS_of _) (okS_join (okS_of _) (okS_all2 xs (by simpa only [lay2] using h)))) (okS_of _)
  | .tuple xs, h => by
    rw [PyData.shown_tuple]
    exact okS_app (okS_app (okS_of _) (okS_join (okS_of _) (okS_all2 xs (by simpa only [lay2] using h)))) (okS_of _)
  | .dict l, h => by
    rw [PyData.shown_dict]
    exact okS_app (okS_app (okS_of _) (okS_join (okS_of _) (okS_kv2 l (by simpa only [lay2] using h)))) (okS_of _)
theorem okS_all2 : ∀ xs : List PyData, lay2All xs = true → ∀ t ∈ PyData.shownAll xs, OkS t
  | [], _, t, ht => by rw [PyData.shownAll_nil] at ht; exact absurd ht (by simp)
  | x :: r, h, t, ht => by
    simp only [lay2All, Bool.and_eq_true] at h
    rw [PyData.shownAll_cons, List.mem_cons] at ht
    rcases ht with rfl | ht
    · exact okS_shown2 x h.1
    · exact okS_all2 r h.2 t ht
theorem okS_kv2 : ∀ l : List (PyData × PyData), lay2Kv l = true → ∀ t ∈ PyData.shownKv l, OkS t
  | [], _, t, ht => by simp [PyData.shownKv] at ht
  | (k, v) :: r, h, t, ht => by
    simp only [lay2Kv, Bool.and_eq_true] at h
    simp only [PyData.shownKv, List.mem_cons] at ht
    rcases ht with rfl | ht
    · refine okS_app (okS_app ?_ (okS_of _)) (okS_shown2 v h.1.2)
      cases k with
      | int i => rw [PyData.shown_int]; exact okS_of _
      | str x =>
        rw [PyData.shown_str]
        exact okS_repr (okS_iff.mpr h.1.1)
      | _ => exact absurd h.1.1 (by simp [atomK])
    · exact okS_kv2 r h.2 t ht
end
end N
namespace J
open PySem PySem.Spec
open PyProof.Rows L2
theorem cvTupC {K : PySem.W.Frag} {μ : Sto} {ds : List PyData} {n0 : Nat} (hn : μ[n0]? = some ds) : CallV K (fun xs H Q => ∃ p ys, xs = [V.ref p] ∧ ((SqL K H p ys ∧ ∀ l, H l = none → Q (.ref l) (upd H l (.tup ys))) ∨ (SqT K H p ys ∧ Q (.ref p) H))) [.ptr n0] (Tp ds) μ := call1 fun w H v m a Q q => by
  obtain ⟨p, hp, rfl⟩ := a
  obtain ⟨vs, hb, hd⟩ := m.cell n0 p ds hp hn
  exact ⟨p, vs, rfl, .inl ⟨SqL.of hb, new_tup m hd q⟩⟩
theorem bTupCell {X : Cx} {ρ : REnv} {μ μ1 : Sto} {a : Expr} {p pos : Pos} {ds : List PyData} {n0 : Nat} (T : X.mg "tuple" = none) (ha : EV X a ρ μ (.ptr n0) μ1) (hn : μ1[n0]? = some ds) (hg : Gl X "tuple" := by rfl) (hs : starEach [a] X.env = (false, eval a X.env) :: starEach [] X.env := by rfl) : EV X (.Call (.Name "tuple" p) [a] [] pos) ρ μ (Tp ds) μ1 := EV.callTy call_tuple_of T (by decide +kernel) (AV.cons ha AV.nil hs) (cvTupC hn) hg (by decide) (by decide) hs (by rfl)
end J
namespace G
open PySem J L2
noncomputable def abc : List Nat := M.letters.cps.toList
noncomputable def pieceP (p : Pu) : Str × Pu := (⟨(many (pick 0 abc) (1 + (draw 4 p).1).toNat (draw 4 p).2).1.toArray⟩, (many (pick 0 abc) (1 + (draw 4 p).1).toNat (draw 4 p).2).2)
noncomputable def pieces (most : Int) (p : Pu) : List Str × Pu := run (fun (_ : Nat) => pieceP) (List.range (1 + (draw most p).1).toNat) (draw most p).2
theorem piece_ok {p : Pu} (h : p.ok) : GR.Piece (pieceP p).1 ∧ (pieceP p).2.ok := by
  obtain ⟨a0, a1, h1⟩ := draw_ok (m := 4) h (by decide)
  obtain ⟨r1, r2⟩ := run_ok (R := fun (_ : Nat) c => c ∈ abc) (f := fun (_ : Nat) => pick 0 abc) (List.range (1 + (draw 4 p).1).toNat) _ (fun b _ q hq => pick_ok hq (by decide)) h1
  have hl := run_len (fun (_ : Nat) => pick 0 abc) (List.range (1 + (draw 4 p).1).toNat) (draw 4 p).2
  rw [List.length_range] at hl
  refine ⟨⟨?_, fun c hc => ?_⟩, r2⟩
  · show 1 ≤ (many (pick 0 abc) (1 + (draw 4 p).1).toNat (draw 4 p).2).1.toArray.size ∧ (many (pick 0 abc) (1 + (draw 4 p).1).toNat (draw 4 p).2).1.toArray.size ≤ 4
    rw [List.size_toArray, hl]
    omega
  · obtain ⟨_, _, e⟩ := r1 c (by simpa [pieceP] using hc)
    exact e
theorem pieces_ok {most : Int} {p : Pu} (h : p.ok) (m0 : 0 < most) : (∀ s ∈ (pieces most p).1, GR.Piece s) ∧ (pieces most p).2.ok ∧ 1 ≤ (pieces most p).1.length ∧ ((pieces most p).1.length : Int) ≤ most := by
  obtain ⟨a0, a1, h1⟩ := draw_ok (m := most) h m0
  obtain ⟨r1, r2⟩ := run_ok (R := fun (_ : Nat) s => GR.Piece s) (f := fun (_ : Nat) => pieceP) (List.range (1 + (draw most p).1).toNat) _ (fun b _ q hq => piece_ok hq) h1
  have hl := run_len (fun (_ : Nat) => pieceP) (List.range (1 + (draw most p).1).toNat) (draw most p).2
  rw [List.length_range] at hl
  exact ⟨fun s hs => (r1 s hs).elim fun _ z => z.2, r2, by show 1 ≤ (run _ _ _).1.length; omega, by show ((run _ _ _).1.length : Int) ≤ most; omega⟩
end G
namespace J
open PySem PySem.Spec
open PyProof.Rows L2
theorem join_abc (cs : List Nat) : Txt.join "" (cs.map fun c => (⟨#[c]⟩ : Str)) = ⟨cs.toArray⟩ := by
  have h : Txt.join (SX.S []) ((cs.map fun c => [c]).map SX.S) = SX.S cs := by rw [SX.join_S, join_nil]
  rw [List.map_map] at h
  exact h
theorem abc_eq : ("abcdefghijklmnopqrstuvwxyz" : Str) = M.letters := by decide +kernel
theorem abc_str : strD M.letters = G.abc.map fun c => .str ⟨#[c]⟩ := rfl
section
variable {w : World} {P : Program} {K : PySem.W.Frag} {base : Heap} {mg : Str → Option Value}
noncomputable abbrev nPs : List Str := ["_law_purse_here", "_law_most", "_law_letters", "_law_found", "_law_k", "_law_turn"]
theorem scPs : FnScope nPs ["_law_purse_here", "_law_most"] (defScope sLPieces) := ⟨rfl, rfl, rfl, by decide +kernel, rfl, by decide +kernel, by decide +kernel⟩
noncomputable def cnPs : Con := fun rs μ r μ' => ∃ (k : Nat) (p : G.Pu) (most : Int), rs = [.ptr k, Ii most] ∧ (μ[k]? = some p.ds ∧ p.ok ∧ 0 < most ∧ most ≤ 99) ∧ r = Tp ((G.pieces most p).1.map .str) ∧ μ' = μ.set k (G.pieces most p).2.ds
theorem cPs (T : Bt mg) (C1 : CDraw P w K mg base) (C2 : CPick P w K mg base) (D : Df K mg "_law_pieces" sLPieces) : Cal P w K mg base "_law_pieces" 3 ["_law_purse_here", "_law_most"] cnPs := by
  refine D.cal scPs (fun _ _ _ _ _ _ us hl => len2 us hl fun _ _ => rfl) (by decide) (fun rs μ r μ' h => by obtain ⟨_, _, _, _, _, _, rfl⟩ := h; simp) fun f cdv A outer s H E hr rs μ r μ' hC => ?_
  obtain ⟨k, p, most, rfl, ⟨hk, hp, m0, m99⟩, rfl, rfl⟩ := hC
  have hkl := (List.getElem?_eq_some_iff.mp hk).1
  refine ST.set (i := 2) (EV.eq EV.str (congrArg Ss abc_eq)) scPs.nd rfl (by first | exact Or.inl rfl | exact Or.inr rfl) ?_
  refine ST.cell (i := 3) (EVF.lst (ds := []) AV.nil) scPs.nd rfl (Or.inl rfl) ?_
  refine ST.envK (ρ' := [some (.ptr k), some (Ii most), some (Ss M.letters), some (.ptr μ.length), none, none]) rfl ?_
  have cell : ∀ {c xs : List PyData}, (μ.set k c ++ [xs])[μ.length]? = some xs := fun {c xs} => by
    have := at_last (μ := μ.set k c) (x := xs) (rest := [])
    rwa [List.length_set] at this
  have sets : ∀ {c xs ys : List PyData}, (μ.set k c ++ [xs]).set μ.length ys = μ.set k c ++ [ys] := fun {c xs ys} => by
    have := set_last (μ := μ.set k c) (x := xs) (y := ys) (rest := [])
    rwa [List.length_set] at this
  have cup : ∀ {c xs : List PyData}, (μ.set k c ++ [xs])[k]? = some c := fun {c xs} => by
    rw [List.getElem?_append_left (by rw [List.length_set]; exact hkl), List.getElem?_set_self hkl]
  have cupS : ∀ {c xs ys : List PyData}, (μ.set k c ++ [xs]).set k ys = μ.set k ys ++ [xs] := fun {c xs ys} => by
    rw [List.set_append_left _ _ (by rw [List.length_set]; exact hkl), List.set_set]
  obtain ⟨a0, a1, hp1⟩ := G.draw_ok (m := most) hp m0
  unfold G.pieces
  generalize hd1 : (G.draw most p).1 = n at *
  generalize hd2 : (G.draw most p).2 = p1 at *
  have e0 : μ ++ [[]] = μ.set k p.ds ++ [([] : List PyData)] := by rw [← set_same hk]
  have hn : ∃ m : Nat, 1 + n = (m : Int) := ⟨(1 + n).toNat, by omega⟩
  obtain ⟨m, hm⟩ := hn
  rw [hm, Int.toNat_natCast]
  refine ST.for_ (is := [4]) (ds := rngD 0 m) (μ1 := μ.set k p1.ds ++ [[]]) (IV.eqD (IV.rng1 (j := (m : Int)) (EV.eq (oAdd EV.int (EV.st (EV.drawE C1 hd1 hd2 hr (nm 0) (nm 1) (by rw [e0]; exact cup) hp m0 (by omega)) (by rw [e0]; exact cupS))) (congrArg Ii hm)) (by omega) (by omega) T.range) (by rw [Int.toNat_natCast])) (fun i ρ ν => (∃ b4, ρ = [some (.ptr k), some (Ii most), some (Ss M.letters), some (.ptr μ.length), b4, none]) ∧ ν = μ.set k (G.run (fun (_ : Nat) => G.pieceP) (List.range i) p1).2.ds ++ [(G.run (fun (_ : Nat) => G.pieceP) (List.range i) p1).1.map .str]) ⟨⟨_, rfl⟩, rfl⟩ (fun i d ρ ν hd hI => ?_) (fun ρ ν hI => ?_)
  · obtain ⟨⟨b4, rfl⟩, rfl⟩ := hI
    have hi : i < m := by
      have := (List.getElem?_eq_some_iff.mp hd).1
      rwa [rngD_len] at this
    have hrun := G.run_ok (R := fun (_ : Nat) s => GR.Piece s) (f := fun (_ : Nat) => G.pieceP) (List.range i) p1 (fun b _ q hq => G.piece_ok hq) hp1
    have hrl := G.run_len (fun (_ : Nat) => G.pieceP) (List.range i) p1
    rw [List.length_range] at hrl
    rw [List.range_succ, G.run_snoc]
    generalize (G.run (fun (_ : Nat) => G.pieceP) (List.range i) p1).1 = acc at *
    have hq := hrun.2
    generalize (G.run (fun (_ : Nat) => G.pieceP) (List.range i) p1).2 = q at *
    obtain ⟨c0, c1, hq1⟩ := G.draw_ok (m := 4) hq (by decide)
    refine ⟨_, GV.name (i := 4) scPs.nd rfl (Or.inl rfl) (by simp), ?_⟩
    show ST _ _ _ _ _ _ _
    have hfst : (G.pieceP q).1 = ⟨(G.many (G.pick 0 G.abc) (1 + (G.draw 4 q).1).toNat (G.draw 4 q).2).1.toArray⟩ := rfl
    have hsnd : (G.pieceP q).2 = (G.many (G.pick 0 G.abc) (1 + (G.draw 4 q).1).toNat (G.draw 4 q).2).2 := rfl
    dsimp only
    rw [List.map_append, List.map_cons, List.map_nil, hfst, hsnd]
    generalize hx1 : (G.draw 4 q).1 = y at *
    generalize hx2 : (G.draw 4 q).2 = q2 at *
    obtain ⟨j, hj⟩ : ∃ j : Nat, 1 + y = (j : Int) := ⟨(1 + y).toNat, by omega⟩
    rw [hj, Int.toNat_natCast]
    have hlen := G.run_len (fun (_ : Nat) => G.pick 0 G.abc) (List.range j) q2
    refine ST.expr (EV.app (d := .str ⟨(G.many (G.pick 0 G.abc) j q2).1.toArray⟩) (nm 3) (EV.eq (EV.join (ys := (G.many (G.pick 0 G.abc) j q2).1.map fun c => ⟨#[c]⟩) EV.str (EV.eq (LCV.evf (own := [("_law_turn", 5)]) (LCV.run (k := k) (p := q2) (bs := List.range j) (fun (i : Nat) => PyData.int (0 + (i : Int))) (fun c => .str ⟨#[c]⟩) (fun _ => G.pick 0 G.abc) (IV.eqD (IV.rng1 (j := (j : Int)) (EV.eq (oAdd EV.int (EV.st (EV.drawE C1 hx1 hx2 hr (nm 0) EV.int cup hq) cupS)) (congrArg Ii hj)) (by omega) (by omega) T.range) (by rw [Int.toNat_natCast]; rfl)) (by rw [cupS]) hq1 (fun b hb q hq => (G.pick_ok hq (by decide)).2) (fun b hb q3 hq3 => ?_) (by rw [List.length_range]; omega)) rfl scPs.nd (blkOk_by (N := nPs) (sc := defScope sLPieces) (by decide +kernel))).ev ?_) ?_) (congrArg Ss (join_abc _))) (by rw [cupS]; exact cell) (by rw [List.length_map]; omega)) (ST.nil ⟨⟨_, rfl⟩, by rw [cupS, sets]⟩)
    · have e1 := pick_map (d := 0) (d' := PyData.none) (fun c => PyData.str ⟨#[c]⟩) hq3 (l := G.abc) (by decide)
      refine ⟨_, fun _ _ _ _ _ => GV.name (i := 5) scPs.nd rfl (Or.inl rfl) (by simp), fun _ _ _ _ _ => ?_⟩
      refine EV.call C2 (hr.mono (by decide)) (AV.cons (nm 0) (AV.cons (nm 2) AV.nil)) ⟨k, q3, _, _, rfl, ⟨by rw [cupS]; exact cup, hq3, .inr ⟨_, rfl, rfl, by decide⟩, by decide, by decide⟩, ?_, ?_⟩
      · rw [abc_str, e1]
      · rw [abc_str, e1, cupS, cupS, cupS]
    · rw [List.map_map]
      rfl
    · have hs : ∀ l : List Nat, ((l.map fun c => (⟨#[c]⟩ : Str)).map (·.length)).sum = l.length := by
        intro l
        induction l with
        | nil => rfl
        | cons c l ih =>
          rw [List.map_cons, List.map_cons, List.sum_cons, ih, List.length_cons]
          show 1 + l.length = l.length + 1
          omega
      rw [hs, List.length_map, hlen, List.length_range]
      have : ((("" : String) : Str)).length = 0 := by decide
      rw [this]
      omega
  · obtain ⟨⟨b4, rfl⟩, rfl⟩ := hI
    rw [rngD_len]
    refine ST.retP (bTupCell T.tuple (nm 3) cell) rfl ?_
    have := List.take_left (l₁ := μ.set k (G.run (fun (_ : Nat) => G.pieceP) (List.range m) p1).2.ds) (l₂ := [(G.run (fun (_ : Nat) => G.pieceP) (List.range m) p1).1.map PyData.str])
    rwa [List.length_set] at this
end
end J
namespace J
open PySem PySem.Spec
open PyProof.Rows L2
section
variable {w : World} {P : Program} {K : PySem.W.Frag} {base : Heap} {mg : Str → Option Value}
theorem tag_ok {p : G.Pu} (hp : p.ok) : (G.tag p).2.ok := by
  obtain ⟨_, _, h1⟩ := G.draw_ok (m := 4) hp (by decide)
  unfold G.tag
  dsimp only
  split
  · exact (G.pick_ok h1 (by decide)).2
  · obtain ⟨_, _, h2⟩ := G.draw_ok (m := 26) h1 (by decide)
    obtain ⟨_, _, h3⟩ := G.draw_ok (m := 8) h2 (by decide)
    exact (G.run_ok (R := fun _ _ => True) _ _ (fun b hb q hq => ⟨trivial, (G.pick_ok hq (by decide)).2⟩) h3).2
noncomputable abbrev nLT : List Str := ["_law_purse_here", "_law_signs", "_law_first", "_law_k"]
theorem scLTag : FnScope nLT ["_law_purse_here"] (defScope sLTag) := ⟨rfl, rfl, rfl, by decide +kernel, rfl, by decide +kernel, by decide +kernel⟩
noncomputable def cnTag : Con := fun rs μ r μ' => ∃ (k : Nat) (p : G.Pu), rs = [.ptr k] ∧ (μ[k]? = some p.ds ∧ p.ok) ∧ r = Ss (G.tag p).1 ∧ μ' = μ.set k (G.tag p).2.ds
theorem cTag (T : Bt mg) (C1 : CDraw P w K mg base) (C2 : CPick P w K mg base) (D : Df K mg "_law_tag" sLTag) : Cal P w K mg base "_law_tag" 3 ["_law_purse_here"] cnTag := by
  refine D.cal scLTag (fun _ _ _ _ _ _ us hl => len1 us hl fun _ => rfl) (by decide) (fun rs μ r μ' h => by obtain ⟨_, _, _, _, _, rfl⟩ := h; simp) fun f cdv A outer s H E hr rs μ r μ' hC => ?_
  obtain ⟨k, p, rfl, ⟨hk, hp⟩, rfl, rfl⟩ := hC
  obtain ⟨a0, a1, hp1⟩ := G.draw_ok (m := 4) hp (by decide)
  have hk1 := at_set (es := (G.draw 4 p).2.ds) hk
  refine ST.ifR (tEq (EV.draw C1 hr (nm 0) EV.int hk hp) EV.int) (fun hb => ?_) (fun hb => ?_)
  · have hb' : (G.draw 4 p).1 = 0 := eq_of_beq hb
    have e : G.tag p = G.pick Str.empty G.words (G.draw 4 p).2 := by
      unfold G.tag
      exact if_pos hb'
    rw [e]
    refine ST.retP (EV.pickS C2 hr (nm 0) (EV.eq (EV.split EV.str EV.str (by decide +kernel) (sz2 (by decide))) ?_) hk1 hp1 (by decide) (by decide)) rfl ?_
    · rw [words_split]
    · rw [List.set_set]
      exact take_set
  · have hb' : ¬ (G.draw 4 p).1 = 0 := fun z => by
      have : ((G.draw 4 p).1 == 0) = false := hb
      rw [z] at this
      cases this
    obtain ⟨b0, b1, hp2⟩ := G.draw_ok (m := 26) hp1 (by decide)
    obtain ⟨c0, c1, hp3⟩ := G.draw_ok (m := 8) hp2 (by decide)
    have e : G.tag p = (⟨(G.nth 0 G.signs (G.draw 26 (G.draw 4 p).2).1 :: (G.many (G.pick 0 G.signs) (G.draw 8 (G.draw 26 (G.draw 4 p).2).2).1.toNat (G.draw 8 (G.draw 26 (G.draw 4 p).2).2).2).1).toArray⟩, (G.many (G.pick 0 G.signs) (G.draw 8 (G.draw 26 (G.draw 4 p).2).2).1.toNat (G.draw 8 (G.draw 26 (G.draw 4 p).2).2).2).2) := by
      unfold G.tag
      exact if_neg hb'
    rw [e]
    generalize hq1 : (G.draw 4 p).2 = q1 at *
    generalize hf : (G.draw 26 q1).1 = fi at *
    generalize hq2 : (G.draw 26 q1).2 = q2 at *
    generalize hn : (G.draw 8 q2).1 = n at *
    generalize hq3 : (G.draw 8 q2).2 = q3 at *
    have hl : (M.letters ++ M.digits).length ≤ 100000 := by decide
    have hfi : (M.letters ++ M.digits).cps.toList[fi.toNat]? = some (G.nth 0 G.signs fi) := G.nth_some b0 (Int.lt_of_lt_of_le b1 (by decide))
    refine ST.set (i := 1) (EV.eq EV.str (congrArg Ss signs_eq)) scLTag.nd rfl (Or.inr rfl) ?_
    refine ST.set (i := 2) (ixS (nm 1) (EV.drawE C1 hf hq2 hr (nm 0) EV.int hk1 hp1) (sz (by omega)) (by have := at_nat hfi; rwa [show ((fi.toNat : Nat) : Int) = fi by omega] at this)) scLTag.nd rfl (Or.inl rfl) ?_
    have hk2 := at_set (es := q2.ds) hk1
    have hk3 := at_set (es := q3.ds) hk2
    refine ST.retP (oAddS (nm 2) (EV.join (ys := (G.many (G.pick 0 G.signs) n.toNat q3).1.map fun c => ⟨#[c]⟩) EV.str (EV.eq (LCV.evf (own := [("_law_k", 3)]) (LCV.run (p := q3) (bs := List.range n.toNat) (fun (i : Nat) => PyData.int (0 + (i : Int))) (fun c => .str ⟨#[c]⟩) (fun _ => G.pick 0 G.signs) (IV.rng1 (EV.drawE C1 hn hq3 hr (nm 0) EV.int hk2 hp2) (by omega) (by omega) T.range) (set_same hk3) hp3 (fun b hb q hq => (G.pick_ok hq (by decide)).2) (fun b hb q hq => ?_) (by simp; omega)) rfl scLTag.nd (blkOk_by (N := nLT) (sc := defScope sLTag) (by decide +kernel))).ev ?_) ?_) ?_) ?_ ?_
    · have hkq : (((((μ.set k q1.ds).set k q2.ds).set k q3.ds).set k q.ds))[k]? = some q.ds := at_set hk3
      have e1 := pick_map (d := 0) (d' := PyData.none) (fun c => PyData.str ⟨#[c]⟩) hq (l := G.signs) (by decide)
      refine ⟨_, fun _ _ _ _ _ => GV.name (i := 3) scLTag.nd rfl (Or.inl rfl) (by simp), fun _ _ _ _ _ => ?_⟩
      refine EV.call C2 hr (AV.cons (nm 0) (AV.cons (nm 1) AV.nil)) ⟨k, q, _, _, rfl, ⟨hkq, hq, .inr ⟨_, rfl, rfl, hl⟩, by decide, by decide⟩, ?_, ?_⟩
      · rw [signs_str, e1]
      · rw [signs_str, e1]
        exact sset.symm
    · rw [List.map_map]
      rfl
    · have hlen := G.run_len (fun (_ : Nat) => G.pick 0 G.signs) (List.range n.toNat) q3
      have hs : ∀ l : List Nat, ((l.map fun c => (⟨#[c]⟩ : Str)).map (·.length)).sum = l.length := by
        intro l
        induction l with
        | nil => rfl
        | cons c l ih =>
          rw [List.map_cons, List.map_cons, List.sum_cons, ih, List.length_cons]
          show 1 + l.length = l.length + 1
          omega
      rw [hs, List.length_map, hlen, List.length_range]
      have : ((("" : String) : Str)).length = 0 := by decide
      rw [this]
      omega
    · have := congrArg Str.length (join_signs (G.nth 0 G.signs fi) (G.many (G.pick 0 G.signs) n.toNat q3).1)
      rw [strLen_append] at this
      have hlen := G.run_len (fun (_ : Nat) => G.pick 0 G.signs) (List.range n.toNat) q3
      rw [this, SX.S_len, List.length_cons, hlen, List.length_range]
      exact sz (by omega)
    · exact congrArg Ss (join_signs _ _)
    · rw [List.set_set, List.set_set, List.set_set]
      exact take_set
end
end J
namespace J
open PySem PySem.Spec
open PyProof.Rows L2
section
variable {w : World} {P : Program} {K : PySem.W.Frag} {base : Heap} {mg : Str → Option Value}
theorem deed_ok {o b : Int} {p : G.Pu} (hp : p.ok) : (G.deed o b p).2.ok := by
  have h1 := (G.pick_ok (d := Str.empty) (l := ["join", "join", "take", "clear"]) hp (by decide)).2
  have h2 := (G.pick_ok (d := Str.empty) (l := ["left", "right"]) h1 (by decide)).2
  exact (G.draw_ok (m := 4) h2 (by decide)).2.2
noncomputable abbrev nLD : List Str := ["_law_purse_here", "_law_over", "_law_by", "_law_word", "_law_side", "_law_far"]
theorem scLDeed : FnScope nLD ["_law_purse_here", "_law_over", "_law_by"] (defScope sLDeed) := ⟨rfl, rfl, rfl, by decide +kernel, rfl, by decide +kernel, by decide +kernel⟩
noncomputable def cnDeed : Con := fun rs μ r μ' => ∃ (k : Nat) (p : G.Pu) (o b : Int), rs = [.ptr k, Ii o, Ii b] ∧ (μ[k]? = some p.ds ∧ p.ok) ∧ r = .dat (G.deed o b p).1.d ∧ μ' = μ.set k (G.deed o b p).2.ds
theorem cDeed (T : Bt mg) (C1 : CDraw P w K mg base) (C2 : CPick P w K mg base) (D : Df K mg "_law_deed" sLDeed) : Cal P w K mg base "_law_deed" 3 ["_law_purse_here", "_law_over", "_law_by"] cnDeed := by
  refine D.cal scLDeed (fun _ _ _ _ _ _ us hl => len3 us hl fun _ _ _ => rfl) (by decide) (fun rs μ r μ' h => by obtain ⟨_, _, _, _, _, _, _, rfl⟩ := h; simp) fun f cdv A outer s H E hr rs μ r μ' hC => ?_
  obtain ⟨k, p, o, b, rfl, ⟨hk, hp⟩, rfl, rfl⟩ := hC
  unfold G.deed
  dsimp only
  have hp1 := (G.pick_ok (d := Str.empty) (l := ["join", "join", "take", "clear"]) hp (by decide)).2
  generalize hw : G.pick Str.empty ["join", "join", "take", "clear"] p = wq at *
  have hp2 := (G.pick_ok (d := Str.empty) (l := ["left", "right"]) hp1 (by decide)).2
  generalize hsd : G.pick Str.empty ["left", "right"] wq.2 = sq at *
  have hk1 := at_set (es := wq.2.ds) hk
  have hk2 := at_set (es := sq.2.ds) hk1
  refine ST.set (i := 3) (EV.eq (μ1 := μ.set k wq.2.ds) (z := Ss wq.1) (hw ▸ EV.pickS (l := ["join", "join", "take", "clear"]) C2 hr (nm 0) (EV.lst (ds := [.str "join", .str "join", .str "take", .str "clear"]) (AV.cons EV.str (AV.cons EV.str (AV.cons EV.str (AV.cons EV.str AV.nil))))) hk hp (by decide) (by decide)) rfl) scLDeed.nd rfl (Or.inl rfl) ?_
  refine ST.par (i := 4) (j := 5) (r1 := Ss sq.1) (AV.cons (EV.eq (μ1 := (μ.set k wq.2.ds).set k sq.2.ds) (z := Ss sq.1) (hsd ▸ EV.pickS (l := ["left", "right"]) C2 hr (nm 0) (EV.lst (ds := [.str "left", .str "right"]) (AV.cons EV.str (AV.cons EV.str AV.nil))) hk1 hp1 (by decide) (by decide)) rfl) (AV.cons (oAdd EV.int (EV.draw C1 hr (nm 0) EV.int hk2 hp2)) AV.nil)) scLDeed.nd rfl rfl (by decide) rfl rfl ?_ rfl
  refine ST.retP (ν := ((μ.set k wq.2.ds).set k sq.2.ds).set k (G.draw 4 sq.2).2.ds) (r' := .dat (if wq.1 = "clear" then (⟨"clear", o, b, Str.empty, 0, Str.empty⟩ : G.Part) else ⟨wq.1, o, b, sq.1, 1 + (G.draw 4 sq.2).1, Str.empty⟩).d) (EV.ifx (tEq (nm 3) EV.str) (fun hb => ?_) (fun hb => ?_)) rfl ?_
  · have hb' : wq.1 = "clear" := eq_of_beq hb
    rw [if_pos hb']
    exact EV.tup (ds := [.str "clear", .int o, .int b, .str Str.empty, .int 0, .str Str.empty]) (AV.cons EV.str (AV.cons (nm 1) (AV.cons (nm 2) (AV.cons EV.str (AV.cons EV.int (AV.cons EV.str AV.nil))))))
  · have hb' : ¬ wq.1 = "clear" := fun z => by
      have : (wq.1 == ("clear" : Str)) = false := hb
      rw [z] at this
      exact absurd this (by decide)
    rw [if_neg hb']
    exact EV.tup (ds := [.str wq.1, .int o, .int b, .str sq.1, .int (1 + (G.draw 4 sq.2).1), .str Str.empty]) (AV.cons (nm 3) (AV.cons (nm 1) (AV.cons (nm 2) (AV.cons (nm 4) (AV.cons (nm 5) (AV.cons EV.str AV.nil))))))
  · rw [sset, sset]
    exact take_set
end
end J
namespace J
open PySem PySem.Spec
open PyProof.Rows L2
section
variable {w : World} {P : Program} {K : PySem.W.Frag} {base : Heap} {mg : Str → Option Value}
noncomputable def goalP (g : Str × Int) : PyData := .tuple [.str g.1, .int g.2]
theorem goal_ok {p : G.Pu} (hp : p.ok) : (G.goalD p).2.ok := by
  obtain ⟨_, _, h1⟩ := G.draw_ok (m := 4) hp (by decide)
  unfold G.goalD
  dsimp only
  split
  · exact h1
  · exact (G.draw_ok h1 (by decide)).2.2
theorem scLGoal : FnScope ["_law_purse_here", "_law_way"] ["_law_purse_here"] (defScope sLGoal) := ⟨rfl, rfl, rfl, by decide +kernel, rfl, by decide +kernel, by decide +kernel⟩
noncomputable def cnGoal : Con := fun rs μ r μ' => ∃ (k : Nat) (p : G.Pu), rs = [.ptr k] ∧ (μ[k]? = some p.ds ∧ p.ok) ∧ r = .dat (goalP (G.goalD p).1) ∧ μ' = μ.set k (G.goalD p).2.ds
theorem cGoal (T : Bt mg) (C1 : CDraw P w K mg base) (D : Df K mg "_law_goal" sLGoal) : Cal P w K mg base "_law_goal" 2 ["_law_purse_here"] cnGoal := by
  refine D.cal scLGoal (fun _ _ _ _ _ _ us hl => len1 us hl fun _ => rfl) (by decide) (fun rs μ r μ' h => by obtain ⟨_, _, _, _, _, rfl⟩ := h; simp) fun f cdv A outer s H E hr rs μ r μ' hC => ?_
  obtain ⟨k, p, rfl, ⟨hk, hp⟩, rfl, rfl⟩ := hC
  obtain ⟨a0, a1, hp1⟩ := G.draw_ok (m := 4) hp (by decide)
  have hk1 := at_set (es := (G.draw 4 p).2.ds) hk
  refine ST.set (i := 1) (EV.draw C1 hr (nm 0) EV.int hk hp) scLGoal.nd rfl (Or.inl rfl) ?_
  refine ST.ifR (tLt (nm 1) EV.int) (fun hb => ?_) (fun hb => ?_)
  · have hb' := of_decide_eq_true hb
    have e : G.goalD p = ((G.nth Str.empty ["all", "before"] (G.draw 4 p).1, 0), (G.draw 4 p).2) := by
      unfold G.goalD
      exact if_pos hb'
    rw [e]
    have hx := G.nth_some (d := Str.empty) (l := ["all", "before"]) a0 hb'
    have hx2 : atI [PyData.str "all", PyData.str "before"] (G.draw 4 p).1 = some (.str (G.nth Str.empty ["all", "before"] (G.draw 4 p).1)) := by
      have h2 : ([("all" : Str), "before"].map PyData.str)[(G.draw 4 p).1.toNat]? = some (.str (G.nth Str.empty ["all", "before"] (G.draw 4 p).1)) := by
        rw [List.getElem?_map, hx]
        rfl
      have := at_nat h2
      rwa [show (((G.draw 4 p).1.toNat : Nat) : Int) = (G.draw 4 p).1 by omega] at this
    exact ST.retP (EV.tup (ds := [.str (G.nth Str.empty ["all", "before"] (G.draw 4 p).1), .int 0]) (AV.cons (ixL (EV.lst (ds := [.str "all", .str "before"]) (AV.cons EV.str (AV.cons EV.str AV.nil))) (nm 1) hx2) (AV.cons EV.int AV.nil))) rfl take_set
  · have hb' := of_decide_eq_false hb
    have e : G.goalD p = ((("last" : Str), 1 + (G.draw 4 (G.draw 4 p).2).1), (G.draw 4 (G.draw 4 p).2).2) := by
      unfold G.goalD
      exact if_neg hb'
    rw [e]
    refine ST.retP (EV.tup (ds := [.str "last", .int (1 + (G.draw 4 (G.draw 4 p).2).1)]) (AV.cons EV.str (AV.cons (oAdd EV.int (EV.draw C1 hr (nm 0) EV.int hk1 hp1)) AV.nil))) rfl ?_
    rw [sset]
    exact take_set
end
end J
namespace J
open PySem PySem.Spec
open PyProof.Rows L2
theorem pig : ∀ (xs ys : List Str), xs.Nodup → (∀ x ∈ xs, x ∈ ys) → xs.length ≤ ys.length
  | [], ys, _, _ => Nat.zero_le _
  | x :: xs, ys, hn, h => by
    have hx := h x List.mem_cons_self
    have h1 := pig xs (ys.erase x) (List.nodup_cons.mp hn).2 fun z hz => by
      have hne : z ≠ x := fun e => (List.nodup_cons.mp hn).1 (e ▸ hz)
      exact (List.mem_erase_of_ne hne).mpr (h z (List.mem_cons_of_mem _ hz))
    have h2 := List.length_erase_of_mem hx
    have h3 : 0 < ys.length := List.length_pos_of_mem hx
    simp only [List.length_cons]
    omega
theorem spare_left {found : List Str} (h : found.length < 5) : ∃ s r, G.spares.filter (fun s => decide (s ∉ found)) = s :: r := by
  cases q : G.spares.filter (fun s => decide (s ∉ found)) with
  | cons s r => exact ⟨s, r, rfl⟩
  | nil =>
    exfalso
    have h2 := pig G.spares found (by decide +kernel) fun x hx => by
      have := List.filter_eq_nil_iff.mp q x hx
      simpa using this
    have : G.spares.length = 5 := rfl
    omega
theorem tags_len (p : G.Pu) : ∀ n, (G.tags p n).1.length = n
  | 0 => rfl
  | n + 1 => by
    show ((G.tags p n).1 ++ [_]).length = n + 1
    rw [List.length_append, tags_len p n]
    rfl
theorem tags_ok {p : G.Pu} (hp : p.ok) : ∀ n, (G.tags p n).2.ok
  | 0 => hp
  | n + 1 => tag_ok (tags_ok hp n)
section
variable {w : World} {P : Program} {K : PySem.W.Frag} {base : Heap} {mg : Str → Option Value}
noncomputable abbrev nLTs : List Str := ["_law_purse_here", "_law_many", "_law_found", "_law_k", "_law_tag_here", "_law_spare"]
theorem scLTags : FnScope nLTs ["_law_purse_here", "_law_many"] (defScope sLTags) := ⟨rfl, rfl, rfl, by decide +kernel, rfl, by decide +kernel, by decide +kernel⟩
noncomputable def cnTags : Con := fun rs μ r μ' => ∃ (k n : Nat) (p : G.Pu), rs = [.ptr k, Ii (n : Int)] ∧ (μ[k]? = some p.ds ∧ p.ok ∧ n ≤ 5) ∧ r = Ls ((G.tags p n).1.map .str) ∧ μ' = μ.set k (G.tags p n).2.ds
theorem cTags (T : Bt mg) (C1 : Cal P w K mg base "_law_tag" 3 ["_law_purse_here"] cnTag) (D : Df K mg "_law_tags" sLTags) : Cal P w K mg base "_law_tags" 4 ["_law_purse_here", "_law_many"] cnTags := by
  refine D.cal scLTags (fun _ _ _ _ _ _ us hl => len2 us hl fun _ _ => rfl) (by decide) (fun rs μ r μ' h => by obtain ⟨_, _, _, _, _, _, rfl⟩ := h; simp) fun f cdv A outer s H E hr rs μ r μ' hC => ?_
  obtain ⟨k, n, p, rfl, ⟨hk, hp, hn⟩, rfl, rfl⟩ := hC
  have hkl := (List.getElem?_eq_some_iff.mp hk).1
  have hml : ∀ x, (μ.set k x).length = μ.length := fun x => List.length_set
  refine ST.cell (i := 2) (EVF.lst (ds := []) AV.nil) scLTags.nd rfl (Or.inr rfl) ?_
  refine ST.for_ (is := [3]) (IV.rng1 (nm 1) (by omega) (by omega) T.range) (fun i ρ ν => (∃ a b c, ρ = [some (.ptr k), some (Ii (n : Int)), some (.ptr μ.length), a, b, c]) ∧ ν = μ.set k (G.tags p i).2.ds ++ [(G.tags p i).1.map .str]) ⟨⟨none, none, none, rfl⟩, by rw [show (G.tags p 0).2 = p from rfl, ← set_same hk]; rfl⟩ (fun i d ρ ν hd hI => ?_) (fun ρ ν hI => ?_)
  · obtain ⟨⟨a, b, c, rfl⟩, rfl⟩ := hI
    have hi : i < n := by
      have := (List.getElem?_eq_some_iff.mp hd).1
      rw [rngD_len] at this
      omega
    have hq := tags_ok hp i
    have hfl := tags_len p i
    generalize hqq : (G.tags p i).2 = q at *
    generalize hff : (G.tags p i).1 = fs at *
    have ht : G.tags p (i + 1) = (fs ++ [G.freshTag fs (G.tag q).1], (G.tag q).2) := by
      rw [← hqq, ← hff]
      rfl
    refine ⟨_, GV.name (i := 3) scLTags.nd rfl (Or.inl rfl) (by simp), ?_⟩
    have g1 : (μ.set k q.ds ++ [fs.map PyData.str])[k]? = some q.ds := by rw [ap_get (by rw [hml]; exact hkl)]; exact at_set hk
    refine ST.set (i := 4) (r := Ss (G.tag q).1) (μ1 := μ.set k (G.tag q).2.ds ++ [fs.map PyData.str]) (EV.call C1 hr (AV.cons (nm 0) AV.nil) ⟨k, q, rfl, ⟨g1, hq⟩, rfl, by rw [ap_set (by rw [hml]; exact hkl), sset]⟩) scLTags.nd rfl (Or.inl rfl) ?_
    have gl : (μ.set k (G.tag q).2.ds ++ [fs.map PyData.str])[μ.length]? = some (fs.map .str) := by
      have := at_last (μ := μ.set k (G.tag q).2.ds) (x := fs.map PyData.str) (rest := [])
      rwa [hml] at this
    have gs : ∀ y, (μ.set k (G.tag q).2.ds ++ [fs.map PyData.str]).set μ.length y = μ.set k (G.tag q).2.ds ++ [y] := fun y => by
      have := set_last (μ := μ.set k (G.tag q).2.ds) (x := fs.map PyData.str) (y := y) (rest := [])
      rwa [hml] at this
    refine ST.iff (tInC (nm 4) (nm 2) gl rfl (strs_flat _)) (fun hb => ?_) (fun hb => ?_)
    · rw [inD_strs] at hb
      have hb' : (G.tag q).1 ∈ fs := of_decide_eq_true hb
      obtain ⟨s0, r0, hs0⟩ := spare_left (found := fs) (by omega)
      have hft : G.freshTag fs (G.tag q).1 = s0 := by
        unfold G.freshTag
        rw [if_pos hb', hs0]
        rfl
      refine ST.set (i := 4) (r := Ss s0) (μ1 := μ.set k (G.tag q).2.ds ++ [fs.map PyData.str]) (ixL (ds := (G.spares.filter fun s => decide (s ∉ fs)).map .str) (LCV.evf (own := [("_law_spare", 5)]) (LCV.mk (ds := G.spares.map .str) (IV.lst (EV.lst (ds := [.str "a", .str "b", .str "up2", .str "d", .str "e"]) (AV.cons EV.str (AV.cons EV.str (AV.cons EV.str (AV.cons EV.str (AV.cons EV.str AV.nil))))))) (fun i acc ν => acc = ((G.spares.take i).filter fun s => decide (s ∉ fs)).map .str ∧ ν = μ.set k (G.tag q).2.ds ++ [fs.map PyData.str]) ⟨rfl, rfl⟩ (fun i d acc ν hd hI => ?_) (fun acc ν hI => ?_) (by decide)) rfl scLTags.nd (blkOk_by (N := nLTs) (sc := defScope sLTags) (by decide +kernel))).ev EV.int (by rw [hs0]; exact at_nat (i := 0) rfl)) scLTags.nd rfl (Or.inl rfl) (ST.nil ?_)
      · obtain ⟨rfl, rfl⟩ := hI
        rw [List.getElem?_map] at hd
        cases e0 : G.spares[i]? with
        | none => rw [e0] at hd; cases hd
        | some x =>
          rw [e0] at hd
          cases hd
          refine ⟨_, fun _ _ _ _ _ => GV.name (i := 5) scLTags.nd rfl (Or.inl rfl) (by simp), !inD (.str x) (fs.map .str), _, .inr ⟨_, rfl, fun _ _ _ _ _ => tNiC (nm 5) (nm 2) gl rfl (strs_flat _)⟩, ?_⟩
          rw [inD_strs, List.take_succ, e0]
          by_cases hx : x ∈ fs
          · rw [decide_eq_true hx]
            refine iteF ⟨?_, rfl⟩
            simp [hx]
          · rw [decide_eq_false hx]
            refine iteT ⟨.str x, _, fun _ _ _ _ _ => nm 5, ?_, rfl⟩
            simp [hx]
      · obtain ⟨rfl, rfl⟩ := hI
        exact ⟨rfl, rfl⟩
      · refine ST.expr (EV.app (nm 2) (nm 4) gl (by rw [List.length_map]; omega)) (ST.nil ⟨⟨_, _, _, rfl⟩, ?_⟩)
        rw [gs, ht, hft]
        simp
    · rw [inD_strs] at hb
      have hb' : ¬ (G.tag q).1 ∈ fs := of_decide_eq_false hb
      have hft : G.freshTag fs (G.tag q).1 = (G.tag q).1 := if_neg hb'
      refine ST.nil (ST.expr (EV.app (nm 2) (nm 4) gl (by rw [List.length_map]; omega)) (ST.nil ⟨⟨_, _, _, rfl⟩, ?_⟩))
      rw [gs, ht, hft]
      simp
  · obtain ⟨⟨a, b, c, rfl⟩, rfl⟩ := hI
    rw [rngD_len, show ((n : Int)).toNat = n by omega]
    refine ST.retP (nm 2) ?_ ?_
    · show (if μ.length < μ.length then _ else Ent.dat (PyData.list (List.getD _ _ _))) = _
      rw [if_neg (by omega)]
      have := at_last (μ := μ.set k (G.tags p n).2.ds) (x := (G.tags p n).1.map PyData.str) (rest := [])
      rw [hml] at this
      rw [List.getD_eq_getElem?_getD, this]
      rfl
    · rw [List.take_append_of_le_length (by rw [hml]; exact Nat.le_refl _)]
      exact take_set
end
end J
namespace J
open PySem PySem.Spec
open PyProof.Rows L2
theorem era_map {α β : Type} (f : α → β) : ∀ (xs : List α) (j : Nat), (xs.map f).eraseIdx j = (xs.eraseIdx j).map f
  | [], _ => rfl
  | _ :: _, 0 => rfl
  | x :: xs, j + 1 => congrArg (f x :: ·) (era_map f xs j)
theorem era_len {α : Type} : ∀ (xs : List α) (j : Nat), j < xs.length → (xs.eraseIdx j).length + 1 = xs.length
  | x :: xs, 0, _ => rfl
  | x :: xs, j + 1, h => by
    have := era_len xs j (by simpa using h)
    simp only [List.eraseIdx_cons_succ, List.length_cons]
    omega
structure OvOk (b n : Nat) (s : List Int × List Int × G.Pu) : Prop where
  ok : s.2.2.ok
  len : s.1.length + n = b
  fl : s.2.1.length = n
  nd : (s.2.1 ++ s.1).Nodup
  inn : ∀ x ∈ s.2.1 ++ s.1, 0 ≤ x ∧ x < b
theorem nodup_move {α : Type} {l : List α} {f : List α} {j : Nat} {x : α} (h : l[j]? = some x) (nd : (f ++ l).Nodup) : ((f ++ [x]) ++ l.eraseIdx j).Nodup ∧ ∀ y ∈ (f ++ [x]) ++ l.eraseIdx j, y ∈ f ++ l := by
  obtain ⟨hj, e⟩ := List.getElem?_eq_some_iff.mp h
  have hp : (l.eraseIdx j).Sublist l := List.eraseIdx_sublist l j
  have hx : x ∈ l := List.mem_iff_getElem?.mpr ⟨j, h⟩
  obtain ⟨n1, n2, n3⟩ := List.nodup_append.mp nd
  have hnx : x ∉ l.eraseIdx j := by
    intro z
    obtain ⟨i, hi⟩ := List.mem_iff_getElem?.mp z
    rw [List.getElem?_eraseIdx] at hi
    split at hi
    · rename_i h1
      obtain ⟨hi1, e1⟩ := List.getElem?_eq_some_iff.mp hi
      exact List.pairwise_iff_getElem.mp n2 i j hi1 hj h1 (e1.trans e.symm)
    · rename_i h1
      obtain ⟨hi1, e1⟩ := List.getElem?_eq_some_iff.mp hi
      exact List.pairwise_iff_getElem.mp n2 j (i + 1) hj hi1 (by omega) (e.trans e1.symm)
  refine ⟨List.nodup_append.mpr ⟨List.nodup_append.mpr ⟨n1, by simp, fun a ha b hb => ?_⟩, n2.sublist hp, fun a ha b hb => ?_⟩, fun y hy => ?_⟩
  · have : b = x := by simpa using hb
    rw [this]
    exact n3 a ha x hx
  · rcases List.mem_append.mp ha with h1 | h1
    · exact n3 a h1 b (hp.subset hb)
    · have : a = x := by simpa using h1
      rw [this]
      exact fun z => hnx (z ▸ hb)
  · rcases List.mem_append.mp hy with h1 | h1
    · rcases List.mem_append.mp h1 with h2 | h2
      · exact List.mem_append_left _ h2
      · have : y = x := by simpa using h2
        rw [this]
        exact List.mem_append_right _ hx
    · exact List.mem_append_right _ (hp.subset h1)
theorem oversN_ok {b : Nat} {p : G.Pu} (hp : p.ok) : ∀ n, n ≤ b → OvOk b n (G.oversN b p n)
  | 0, _ => by
    refine ⟨hp, by simp [G.oversN], rfl, ?_, ?_⟩
    · show (([] : List Int) ++ (List.range b).map fun (i : Nat) => (0 + (i : Int))).Nodup
      rw [List.nil_append]
      refine List.pairwise_map.mpr (List.nodup_range.imp fun {x y} h => ?_)
      omega
    · intro x hx
      have : x ∈ (List.range b).map fun (i : Nat) => (0 + (i : Int)) := by simpa [G.oversN] using hx
      obtain ⟨i, hi, rfl⟩ := List.mem_map.mp this
      have := List.mem_range.mp hi
      omega
  | n + 1, h => by
    obtain ⟨h1, h2, h3, h4, h5⟩ := oversN_ok (b := b) hp n (by omega)
    have hl : 0 < (G.oversN b p n).1.length := by omega
    obtain ⟨d0, d1, d2⟩ := G.draw_ok (m := (G.oversN b p n).1.length) h1 (by omega)
    have hx := G.nth_some (d := (0 : Int)) d0 d1
    obtain ⟨m1, m2⟩ := nodup_move hx h4
    refine ⟨d2, ?_, ?_, m1, fun x hx => h5 x (m2 x hx)⟩
    · have := era_len (G.oversN b p n).1 (G.draw (G.oversN b p n).1.length (G.oversN b p n).2.2).1.toNat (by omega)
      show ((G.oversN b p n).1.eraseIdx _).length + (n + 1) = b
      omega
    · show ((G.oversN b p n).2.1 ++ [_]).length = n + 1
      rw [List.length_append, h3]
      rfl
section
variable {w : World} {P : Program} {K : PySem.W.Frag} {base : Heap} {mg : Str → Option Value}
noncomputable abbrev nLO : List Str := ["_law_purse_here", "_law_by", "_law_free", "_law_found", "_law_k"]
theorem scLOvers : FnScope nLO ["_law_purse_here", "_law_by"] (defScope sLOvers) := ⟨rfl, rfl, rfl, by decide +kernel, rfl, by decide +kernel, by decide +kernel⟩
noncomputable def cnOvers : Con := fun rs μ r μ' => ∃ (k b : Nat) (p : G.Pu), rs = [.ptr k, Ii (b : Int)] ∧ (μ[k]? = some p.ds ∧ p.ok ∧ 1 ≤ b ∧ b ≤ 9) ∧ r = Ls ((G.overs b p).1.map .int) ∧ μ' = μ.set k (G.overs b p).2.ds
theorem st_kg {μ : Sto} {k : Nat} {a f r : List PyData} (h : k < μ.length) : ((μ.set k a ++ [f]) ++ [r])[k]? = some a := by
  rw [List.append_assoc, List.getElem?_append_left (by simpa using h)]
  simp [h]
theorem st_ks {μ : Sto} {k : Nat} {a x f r : List PyData} (h : k < μ.length) : ((μ.set k a ++ [f]) ++ [r]).set k x = (μ.set k x ++ [f]) ++ [r] := by
  rw [List.append_assoc, List.set_append_left _ _ (by simpa using h), List.set_set, List.append_assoc]
theorem st_mg {μ : Sto} {k : Nat} {a f r : List PyData} : ((μ.set k a ++ [f]) ++ [r])[μ.length]? = some f := by
  have h : (μ.set k a).length = μ.length := List.length_set
  rw [List.append_assoc, List.getElem?_append_right (by omega)]
  simp
theorem st_ms {μ : Sto} {k : Nat} {a x f r : List PyData} : ((μ.set k a ++ [f]) ++ [r]).set μ.length x = (μ.set k a ++ [x]) ++ [r] := by
  have h : (μ.set k a).length = μ.length := List.length_set
  rw [List.append_assoc, List.set_append_right _ _ (by omega), List.append_assoc]
  simp
theorem st_ng {μ : Sto} {k : Nat} {a f r : List PyData} : ((μ.set k a ++ [f]) ++ [r])[μ.length + 1]? = some r := by
  rw [List.getElem?_append_right (by simp)]
  simp
theorem st_ns {μ : Sto} {k : Nat} {a x f r : List PyData} : ((μ.set k a ++ [f]) ++ [r]).set (μ.length + 1) x = (μ.set k a ++ [f]) ++ [x] := by
  rw [List.set_append_right _ _ (by simp)]
  simp
theorem cOvers (T : Bt mg) (C1 : CDraw P w K mg base) (D : Df K mg "_law_overs" sLOvers) : Cal P w K mg base "_law_overs" 2 ["_law_purse_here", "_law_by"] cnOvers := by
  refine D.cal scLOvers (fun _ _ _ _ _ _ us hl => len2 us hl fun _ _ => rfl) (by decide) (fun rs μ r μ' h => by obtain ⟨_, _, _, _, _, _, rfl⟩ := h; simp) fun f cdv A outer s H E hr rs μ r μ' hC => ?_
  obtain ⟨k, b, p, rfl, ⟨hk, hp, hb1, hb2⟩, rfl, rfl⟩ := hC
  have hkl := (List.getElem?_eq_some_iff.mp hk).1
  unfold G.overs
  dsimp only
  obtain ⟨d0, d1, hp1⟩ := G.draw_ok (m := (b : Int)) hp (by omega)
  generalize hn : (G.draw (b : Int) p).1 = n at *
  generalize hq : (G.draw (b : Int) p).2 = q at *
  have e0 : (([] : List PyData)) = ([] : List Int).map .int := rfl
  refine ST.par2 (i := 2) (j := 3) (EVF.lstRg T.list T.range rfl (nm 1) (by omega) (by omega)) (EVF.lst (ds := []) AV.nil) scLOvers.nd rfl rfl (by decide) rfl rfl ?_ rfl
  have hk' : μ = μ.set k p.ds := set_same hk
  rw [hk']
  have hlen : (μ.set k p.ds).length = μ.length := List.length_set
  rw [hlen]
  have e1 : (((b : Int)).toNat) = b := by omega
  rw [e1]
  refine ST.for_ (is := [4]) (ds := rngD 0 (1 + n).toNat) (IV.rng1 (oAdd EV.int (EV.drawE C1 hn hq hr (nm 0) (nm 1) (st_kg hkl) hp (by omega) (by omega))) (by omega) (by omega) T.range) (fun i ρ ν => (∃ a, ρ = [some (.ptr k), some (Ii (b : Int)), some (.ptr (μ.length + 1)), some (.ptr μ.length), a]) ∧ ν = (μ.set k (G.oversN b q i).2.2.ds ++ [(G.oversN b q i).2.1.map .int]) ++ [(G.oversN b q i).1.map .int]) ⟨⟨none, rfl⟩, ?_⟩ (fun i d ρ ν hd hI => ?_) (fun ρ ν hI => ?_)
  · rw [(st_ks hkl)]
    show _ = (μ.set k q.ds ++ [[]]) ++ [((List.range b).map fun (i : Nat) => (0 + (i : Int))).map PyData.int]
    rw [List.map_map]
    rfl
  · obtain ⟨⟨a, rfl⟩, rfl⟩ := hI
    have hi : i < (1 + n).toNat := by
      have := (List.getElem?_eq_some_iff.mp hd).1
      rwa [rngD_len] at this
    obtain ⟨h1, h2, h3, h4, h5⟩ := oversN_ok (b := b) hp1 i (by omega)
    have ht : G.oversN b q (i + 1) = ((G.oversN b q i).1.eraseIdx (G.draw (G.oversN b q i).1.length (G.oversN b q i).2.2).1.toNat, (G.oversN b q i).2.1 ++ [G.nth 0 (G.oversN b q i).1 (G.draw (G.oversN b q i).1.length (G.oversN b q i).2.2).1], (G.draw (G.oversN b q i).1.length (G.oversN b q i).2.2).2) := rfl
    have hx0 : 0 < (G.oversN b q i).1.length := by omega
    rw [ht]
    clear ht
    generalize (G.oversN b q i).1 = fr at *
    generalize (G.oversN b q i).2.1 = fo at *
    generalize (G.oversN b q i).2.2 = u at *
    obtain ⟨x0, x1, hu⟩ := G.draw_ok (m := (fr.length : Int)) h1 (by omega)
    have hx := G.nth_some (d := (0 : Int)) x0 x1
    generalize hj : (G.draw (fr.length : Int) u).1 = j at *
    generalize hv : (G.draw (fr.length : Int) u).2 = v at *
    obtain ⟨jn, rfl⟩ : ∃ jn : Nat, j = (jn : Int) := ⟨j.toNat, by omega⟩
    have ejn : ((jn : Int)).toNat = jn := by omega
    rw [ejn] at hx ⊢
    refine ⟨_, GV.name (i := 4) scLOvers.nd rfl (Or.inl rfl) (by simp), ?_⟩
    refine ST.expr (r := Nn) (μ1 := (μ.set k v.ds ++ [(fo ++ [G.nth 0 fr (jn : Int)]).map .int]) ++ [(fr.eraseIdx jn).map .int]) (EV.st (EV.app (d := .int (G.nth 0 fr (jn : Int))) (ds := fo.map .int) (nm 3) (EV.st (μ' := (μ.set k v.ds ++ [fo.map .int]) ++ [(fr.eraseIdx jn).map .int]) (EV.pop (ds := fr.map .int) (jn := jn) (nm 2) (EV.st (EV.drawE C1 hj hv hr (nm 0) (EV.eq (bLenC T (nm 2) st_ng) (by rw [List.length_map])) (st_kg hkl) h1 (by omega) (by omega)) (st_ks hkl)) st_ng (by rw [List.getElem?_map, hx]; rfl) (by rw [List.length_map]; omega) (by rw [List.length_map]; exact seqI (by omega))) (by rw [st_ns, era_map])) st_mg (by rw [List.length_map]; omega)) (by rw [st_ms, List.map_append]; rfl)) (ST.nil ⟨⟨_, rfl⟩, rfl⟩)
  · obtain ⟨⟨a, rfl⟩, rfl⟩ := hI
    rw [rngD_len]
    generalize (1 + n).toNat = t
    refine ST.retP (nm 3) ?_ ?_
    · show (if μ.length < μ.length then _ else Ent.dat (PyData.list (List.getD _ _ _))) = _
      rw [if_neg (by omega), List.getD_eq_getElem?_getD, st_mg]
      rfl
    · rw [List.append_assoc, List.take_append_of_le_length (by rw [List.length_set]; exact Nat.le_refl _), sset]
      exact take_set
end
end J
namespace J
open PySem PySem.Spec
open PyProof.Rows L2
theorem overs_ok {b : Nat} {p : G.Pu} (hp : p.ok) (h1 : 1 ≤ b) : (G.overs b p).2.ok ∧ (G.overs b p).1.length ≤ b ∧ 1 ≤ (G.overs b p).1.length ∧ (G.overs b p).1.Nodup ∧ ∀ x ∈ (G.overs b p).1, 0 ≤ x ∧ x < b := by
  obtain ⟨d0, d1, d2⟩ := G.draw_ok (m := (b : Int)) hp (by omega)
  obtain ⟨o1, o2, o3, o4, o5⟩ := oversN_ok (b := b) d2 (1 + (G.draw (b : Int) p).1).toNat (by omega)
  refine ⟨o1, ?_, ?_, (List.nodup_append.mp o4).1, fun x hx => o5 x (List.mem_append_left _ hx)⟩
  · show (G.oversN b (G.draw (b : Int) p).2 (1 + (G.draw (b : Int) p).1).toNat).2.1.length ≤ b
    omega
  · show 1 ≤ (G.oversN b (G.draw (b : Int) p).2 (1 + (G.draw (b : Int) p).1).toNat).2.1.length
    omega
theorem callPart_ok {b o : Int} {known : List Str} {p : G.Pu} (hp : p.ok) (h : known ≠ []) : (G.callPart b known o p).2.ok ∧ (G.callPart b known o p).1.tag ∈ known := ⟨(G.pick_ok (d := Str.empty) hp h).2, (G.pick_ok (d := Str.empty) hp h).1⟩
noncomputable def NamesOk (l : List Str) : Prop := ∀ s ∈ l, M.nameOk s = true
theorem names_lay : ∀ {l : List Str}, NamesOk l → PyData.canLayAll0 (l.map .str) = true ∧ PyData.depthAll (l.map .str) ≤ 1
  | [], _ => ⟨rfl, by simp [PyData.depthAll]⟩
  | x :: l, h => by
    obtain ⟨h1, h2⟩ := names_lay (l := l) fun y hy => h y (List.mem_cons_of_mem _ hy)
    have h3 := M.name_ok (h x List.mem_cons_self)
    exact ⟨by simp [PyData.canLayAll0, PyData.canLay0, h1, h3], by simp only [List.map_cons, PyData.depthAll, PyData.depth]; omega⟩
theorem names_shaped {l : List Str} (h : NamesOk l) : SeqAt.shaped (.list (l.map .str)) = true := by
  obtain ⟨h1, h2⟩ := names_lay h
  unfold SeqAt.shaped
  rw [Bool.and_eq_true]
  refine ⟨by simpa [PyData.canLay0] using h1, decide_eq_true ?_⟩
  simp only [PyData.depth]
  omega
theorem eqv_nil (l : List Str) : PyData.eqv (.list (l.map .str)) (.list []) = decide (l = []) := by
  cases l with
  | nil => rfl
  | cons x l => rfl
noncomputable abbrev COvers (P : Program) (w : World) (K : PySem.W.Frag) (mg : Str → Option Value) (base : Heap) := Cal P w K mg base "_law_overs" 2 ["_law_purse_here", "_law_by"] cnOvers
noncomputable abbrev CDeed (P : Program) (w : World) (K : PySem.W.Frag) (mg : Str → Option Value) (base : Heap) := Cal P w K mg base "_law_deed" 3 ["_law_purse_here", "_law_over", "_law_by"] cnDeed
end J
namespace J
open PySem PySem.Spec
open PyProof.Rows L2
section
variable {w : World} {P : Program} {K : PySem.W.Frag} {base : Heap} {mg : Str → Option Value}
noncomputable abbrev nLR : List Str := ["_law_purse_here", "_law_lower", "_law_tags_here", "_law_calls", "_law_by", "_law_overs_here", "_law_known", "_law_over"]
theorem scLRound : FnScope nLR ["_law_purse_here", "_law_lower", "_law_tags_here"] (defScope sLRound) := ⟨rfl, rfl, rfl, by decide +kernel, rfl, by decide +kernel, by decide +kernel⟩
noncomputable def cnRound : Con := fun rs μ r μ' => ∃ (k : Nat) (p : G.Pu) (lower tags : List Str), rs = [.ptr k, Ls (lower.map .str), Ls (tags.map .str)] ∧ (μ[k]? = some p.ds ∧ p.ok ∧ NamesOk lower ∧ 1 ≤ tags.length ∧ tags.length ≤ 5 ∧ lower.length ≤ 5) ∧ r = Ls ((G.round lower tags p).1.map G.Part.d) ∧ μ' = μ.set k (G.round lower tags p).2.ds
theorem roundRest (T : Bt mg) (C2 : CPick P w K mg base) (C3 : COvers P w K mg base) (C4 : CDeed P w K mg base) {f : Addr} {cdv : Value} {A : Around} {outer : List Env} {s : Shared} {H : Hp} {E : XK} (hr : Room 3 (A.deeper (envOfC "_law_round" (defScope sLRound) s.heap.objs.size f cdv))) {μ : Sto} {k : Nat} {q : G.Pu} {lower tags : List Str} {c : Bool} {b : Nat} (hk : μ[k]? = some q.ds) (hq : q.ok) (hb1 : 1 ≤ b) (hb3 : b ≤ 3) (ht1 : 1 ≤ tags.length) (ht5 : tags.length ≤ 5) (hl5 : lower.length ≤ 5) (hne : c = true → (b : Int) = 1 → lower ≠ []) :
    ST (cxOf CX0 P w K mg base nLR "_law_round" (defScope sLRound) f cdv A outer s H E).nox W0 μ.length ((defBody sLRound).drop 2) [some (.ptr k), some (Ls (lower.map .str)), some (Ls (tags.map .str)), some (Bb c), some (Ii (b : Int)), none, none, none] μ
      (PostR (Ls ((if c = true then G.run (G.callPart b (if (b : Int) = 1 then lower else tags)) (G.overs b q).1 (G.overs b q).2 else G.run (fun o => G.deed o b) (G.overs b q).1 (G.overs b q).2).1.map G.Part.d)) (μ.set k (if c = true then G.run (G.callPart b (if (b : Int) = 1 then lower else tags)) (G.overs b q).1 (G.overs b q).2 else G.run (fun o => G.deed o b) (G.overs b q).1 (G.overs b q).2).2.ds)) := by
  obtain ⟨o1, o2, o3, o4, o5⟩ := overs_ok (b := b) hq hb1
  refine ST.set (i := 5) (EV.call C3 (hr.mono (by decide)) (AV.cons (nm 0) (AV.cons (nm 4) AV.nil)) ⟨k, b, q, rfl, ⟨hk, hq, hb1, by omega⟩, rfl, rfl⟩) scLRound.nd rfl (Or.inl rfl) ?_
  generalize (G.overs b q).1 = os at *
  generalize (G.overs b q).2 = u at *
  have hk1 := at_set (es := u.ds) hk
  refine ST.ifR (TV.val (nm 3)) (fun hc => ?_) (fun hc => ?_)
  · subst hc
    rw [if_pos rfl]
    have hkn : (if (b : Int) = 1 then lower else tags) ≠ [] ∧ (if (b : Int) = 1 then lower else tags).length ≤ 5 := by
      split
      · rename_i h1
        exact ⟨hne rfl h1, hl5⟩
      · exact ⟨fun z => by rw [z] at ht1; simp at ht1, ht5⟩
    refine ST.set (i := 6) (μ1 := μ.set k u.ds) (r := Ls ((if (b : Int) = 1 then lower else tags).map .str)) (EV.ifx (tEq (nm 4) EV.int) (fun hb => ?_) (fun hb => ?_)) scLRound.nd rfl (Or.inr rfl) ?_
    · have hb' : (b : Int) = 1 := eq_of_beq hb
      rw [if_pos hb']
      exact nm 1
    · have hb' : ¬ (b : Int) = 1 := fun z => by
        have h0 : ((b : Int) == 1) = false := hb
        rw [z] at h0
        cases h0
      rw [if_neg hb']
      exact nm 2
    · generalize (if (b : Int) = 1 then lower else tags) = known at *
      have hkl : 0 < known.length := List.length_pos_iff.mpr hkn.1
      refine ST.retP (LCV.evf (own := [("_law_over", 7)]) (LCV.run (k := k) (p := u) (bs := os) PyData.int G.Part.d (G.callPart b known) (IV.lst (nm 5)) (set_same hk1) o1 (fun o ho v hv => (callPart_ok hv hkn.1).1) (fun o ho v hv => ?_) (by omega)) rfl scLRound.nd (blkOk_by (N := nLR) (sc := defScope sLRound) (by decide +kernel))).ev rfl ?_
      · refine ⟨_, fun _ _ _ _ _ => GV.name (i := 7) scLRound.nd rfl (Or.inl rfl) (by simp), fun _ _ _ _ _ => ?_⟩
        have hkv := at_set (es := v.ds) hk1
        exact EV.st (EV.tup (ds := [.str "call", .int o, .int b, .str Str.empty, .int 0, .str (G.pick Str.empty known v).1]) (AV.cons EV.str (AV.cons (nm 7) (AV.cons (nm 4) (AV.cons EV.str (AV.cons EV.int (AV.cons (EV.pickS C2 (hr.mono (by decide)) (nm 0) (nm 6) hkv hv hkl (by omega)) AV.nil))))))) sset
      · rw [sset]
        exact take_set
  · subst hc
    rw [if_neg Bool.false_ne_true]
    refine ST.retP (LCV.evf (own := [("_law_over", 7)]) (LCV.run (k := k) (p := u) (bs := os) PyData.int G.Part.d (fun o => G.deed o b) (IV.lst (nm 5)) (set_same hk1) o1 (fun o ho v hv => deed_ok hv) (fun o ho v hv => ?_) (by omega)) rfl scLRound.nd (blkOk_by (N := nLR) (sc := defScope sLRound) (by decide +kernel))).ev rfl ?_
    · refine ⟨_, fun _ _ _ _ _ => GV.name (i := 7) scLRound.nd rfl (Or.inl rfl) (by simp), fun _ _ _ _ _ => ?_⟩
      have hkv := at_set (es := v.ds) hk1
      exact EV.call C4 hr (AV.cons (nm 0) (AV.cons (nm 7) (AV.cons (nm 4) AV.nil))) ⟨k, v, o, b, rfl, ⟨hkv, hv⟩, rfl, sset.symm⟩
    · rw [sset]
      exact take_set
theorem cRound (T : Bt mg) (C1 : CDraw P w K mg base) (C2 : CPick P w K mg base) (C3 : COvers P w K mg base) (C4 : CDeed P w K mg base) (D : Df K mg "_law_round" sLRound) : Cal P w K mg base "_law_round" 4 ["_law_purse_here", "_law_lower", "_law_tags_here"] cnRound := by
  refine D.cal scLRound (fun _ _ _ _ _ _ us hl => len3 us hl fun _ _ _ => rfl) (by decide) (fun rs μ r μ' h => by obtain ⟨_, _, _, _, _, _, _, rfl⟩ := h; simp) fun f cdv A outer s H E hr rs μ r μ' hC => ?_
  obtain ⟨k, p, lower, tags, rfl, ⟨hk, hp, hnl, ht1, ht5, hl5⟩, rfl, rfl⟩ := hC
  obtain ⟨c0, c1, hp1⟩ := G.draw_ok (m := 3) hp (by decide)
  obtain ⟨b0, b1, hp2⟩ := G.draw_ok (m := 3) hp1 (by decide)
  unfold G.round
  dsimp only
  generalize hc : (G.draw 3 p).1 = c at *
  generalize hq1 : (G.draw 3 p).2 = q1 at *
  generalize hb : (G.draw 3 q1).1 = b at *
  generalize hq2 : (G.draw 3 q1).2 = q2 at *
  have hk1 := at_set (es := q1.ds) hk
  have hk2 := at_set (es := q2.ds) hk1
  have e2 : (μ.set k q1.ds).set k q2.ds = μ.set k q2.ds := sset
  refine ST.asg (is := [3, 4]) (EV.tup (ds := [.bool (c == 0), .int (1 + b)]) (AV.cons (cEq (EV.drawE C1 hc hq1 hr (nm 0) EV.int hk hp) EV.int) (AV.cons (oAdd EV.int (EV.drawE C1 hb hq2 hr (nm 0) EV.int hk1 hp1)) AV.nil))) (GV.tup (GsV.cons (GV.name (i := 3) scLRound.nd rfl (by first | exact Or.inl rfl | exact Or.inr rfl) (by simp)) (GsV.cons (GV.name (i := 4) scLRound.nd rfl (by first | exact Or.inl rfl | exact Or.inr rfl) (by simp)) GsV.nil))) ?_
  have hk3 : (μ.set k q2.ds)[k]? = some q2.ds := at_set hk
  rw [e2]
  have hlm : μ.length = (μ.set k q2.ds).length := List.length_set.symm
  have fin : ∀ bv : Nat, 1 ≤ bv → bv ≤ 3 → (c = 0 → (bv : Int) = 1 → lower ≠ []) → ((if c = 0 ∧ 1 + b = 1 ∧ lower = [] then (2 : Int) else 1 + b) = (bv : Int)) → ST (cxOf CX0 P w K mg base nLR "_law_round" (defScope sLRound) f cdv A outer s H E).nox W0 μ.length ((defBody sLRound).drop 2) [some (.ptr k), some (Ls (lower.map .str)), some (Ls (tags.map .str)), some (Bb (c == 0)), some (Ii (bv : Int)), none, none, none] (μ.set k q2.ds) (PostR (Ls ((if c = 0 then G.run (G.callPart (if c = 0 ∧ 1 + b = 1 ∧ lower = [] then (2 : Int) else 1 + b) (if (if c = 0 ∧ 1 + b = 1 ∧ lower = [] then (2 : Int) else 1 + b) = 1 then lower else tags)) (G.overs (if c = 0 ∧ 1 + b = 1 ∧ lower = [] then (2 : Int) else 1 + b).toNat q2).1 (G.overs (if c = 0 ∧ 1 + b = 1 ∧ lower = [] then (2 : Int) else 1 + b).toNat q2).2 else G.run (fun o => G.deed o (if c = 0 ∧ 1 + b = 1 ∧ lower = [] then (2 : Int) else 1 + b)) (G.overs (if c = 0 ∧ 1 + b = 1 ∧ lower = [] then (2 : Int) else 1 + b).toNat q2).1 (G.overs (if c = 0 ∧ 1 + b = 1 ∧ lower = [] then (2 : Int) else 1 + b).toNat q2).2).1.map G.Part.d)) (μ.set k (if c = 0 then G.run (G.callPart (if c = 0 ∧ 1 + b = 1 ∧ lower = [] then (2 : Int) else 1 + b) (if (if c = 0 ∧ 1 + b = 1 ∧ lower = [] then (2 : Int) else 1 + b) = 1 then lower else tags)) (G.overs (if c = 0 ∧ 1 + b = 1 ∧ lower = [] then (2 : Int) else 1 + b).toNat q2).1 (G.overs (if c = 0 ∧ 1 + b = 1 ∧ lower = [] then (2 : Int) else 1 + b).toNat q2).2 else G.run (fun o => G.deed o (if c = 0 ∧ 1 + b = 1 ∧ lower = [] then (2 : Int) else 1 + b)) (G.overs (if c = 0 ∧ 1 + b = 1 ∧ lower = [] then (2 : Int) else 1 + b).toNat q2).1 (G.overs (if c = 0 ∧ 1 + b = 1 ∧ lower = [] then (2 : Int) else 1 + b).toNat q2).2).2.ds)) := by
    intro bv v1 v3 hne hbv
    rw [hbv]
    have := roundRest T C2 C3 C4 (outer := outer) (H := H) (E := E) hr (c := c == 0) (b := bv) hk3 hp2 v1 v3 ht1 ht5 hl5 (fun z => hne (eq_of_beq z))
    rw [← hlm] at this
    have e4 : ((bv : Int)).toNat = bv := by omega
    rw [e4]
    rw [sset] at this
    by_cases hc0 : c = 0
    · rw [if_pos hc0]
      rw [if_pos (by rw [hc0]; rfl)] at this
      exact this
    · rw [if_neg hc0]
      rw [if_neg (by simpa using hc0)] at this
      exact this
  refine ST.iff (k := (c == 0) && ((1 + b == 1) && decide (lower = []))) (WV.tv (WV.andD (TV.val (nm 3)) fun _ => WV.andD (TV.eq (tEq (nm 4) EV.int) rfl) fun _ => WV.and1 (TV.eq (tEqD hr.units (nm 1) (EV.lst (ds := []) AV.nil) (names_shaped hnl) rfl) (eqv_nil lower)))) (fun hk => ?_) (fun hk => ?_)
  · have hk' : c = 0 ∧ 1 + b = 1 ∧ lower = [] := by simpa using hk
    refine ST.set (i := 4) EV.int scLRound.nd rfl (Or.inr rfl) (ST.nil ?_)
    exact fin 2 (by decide) (by decide) (fun _ z => by cases z) (if_pos hk')
  · have hk' : ¬ (c = 0 ∧ 1 + b = 1 ∧ lower = []) := by
      intro z
      have h0 : ((c == 0) && ((1 + b == 1) && decide (lower = []))) = true := by simpa using z
      rw [h0] at hk
      cases hk
    obtain ⟨bv, hbv⟩ : ∃ bv : Nat, 1 + b = (bv : Int) := ⟨(1 + b).toNat, by omega⟩
    refine ST.nil ?_
    have := fin bv (by omega) (by omega) (fun h1 h2 h3 => hk' ⟨h1, by omega, h3⟩) ((if_neg hk').trans hbv)
    rw [← hbv] at this
    exact this
end
end J
namespace J
open PySem PySem.Spec
open PyProof.Rows L2
theorem name_of {c : Nat} {cs : List Nat} (h1 : c ∈ M.letters.cps.toList) (h2 : ∀ x ∈ cs, x ∈ G.signs) (h3 : cs.length ≤ 7) : M.nameOk ⟨(c :: cs).toArray⟩ = true := by
  have hl : (⟨(c :: cs).toArray⟩ : Str).length = cs.length + 1 := SX.S_len (c :: cs)
  have hm : ∀ x, x ∈ G.signs → M.signOk x = true := fun x hx => decide_eq_true hx
  have hc : M.signOk c = true := by
    refine hm c ?_
    have : ∀ x ∈ M.letters.cps.toList, x ∈ G.signs := by decide +kernel
    exact this c h1
  unfold M.nameOk
  rw [hl]
  have e : (⟨(c :: cs).toArray⟩ : Str).cps.toList = c :: cs := rfl
  rw [e]
  dsimp only
  rw [Bool.and_eq_true, Bool.and_eq_true, Bool.and_eq_true, decide_eq_true_eq, decide_eq_true_eq, decide_eq_true_eq, List.all_eq_true]
  refine ⟨⟨by omega, by omega⟩, h1, fun x hx => ?_⟩
  rcases List.mem_cons.mp hx with rfl | hx
  · exact hc
  · exact hm x (h2 x hx)
theorem tag_name {p : G.Pu} (hp : p.ok) : M.nameOk (G.tag p).1 = true := by
  obtain ⟨_, _, h1⟩ := G.draw_ok (m := 4) hp (by decide)
  unfold G.tag
  dsimp only
  split
  · have := (G.pick_ok (d := Str.empty) (l := G.words) h1 (by decide)).1
    have hw : ∀ s ∈ G.words, M.nameOk s = true := by decide +kernel
    exact hw _ this
  · obtain ⟨b0, b1, h2⟩ := G.draw_ok (m := 26) h1 (by decide)
    obtain ⟨c0, c1, h3⟩ := G.draw_ok (m := 8) h2 (by decide)
    refine name_of ?_ (fun x hx => ?_) ?_
    · have hw : ∀ i : _root_.Fin 26, G.nth 0 G.signs (i.val : Int) ∈ M.letters.cps.toList := by decide +kernel
      have := hw ⟨(G.draw 26 (G.draw 4 p).2).1.toNat, by omega⟩
      rwa [show (((G.draw 26 (G.draw 4 p).2).1.toNat : Nat) : Int) = (G.draw 26 (G.draw 4 p).2).1 by omega] at this
    · obtain ⟨b, _, hb⟩ := (G.run_ok (R := fun _ y => y ∈ G.signs) _ _ (fun b hb q hq => G.pick_ok hq (by decide)) h3).1 x hx
      exact hb
    · rw [G.run_len, List.length_range]
      omega
theorem tags_names {p : G.Pu} (hp : p.ok) : ∀ n, n ≤ 5 → NamesOk (G.tags p n).1
  | 0, _ => fun s hs => by cases hs
  | n + 1, hn => by
    intro s hs
    have hs' : s ∈ (G.tags p n).1 ++ [G.freshTag (G.tags p n).1 (G.tag (G.tags p n).2).1] := hs
    rcases List.mem_append.mp hs' with h | h
    · exact tags_names hp n (by omega) s h
    · have : s = G.freshTag (G.tags p n).1 (G.tag (G.tags p n).2).1 := by simpa using h
      rw [this]
      unfold G.freshTag
      split
      · obtain ⟨x, r, hx⟩ := spare_left (found := (G.tags p n).1) (by rw [tags_len]; omega)
        rw [hx]
        have hm : x ∈ G.spares := (List.mem_filter.mp (hx ▸ List.mem_cons_self)).1
        have hw : ∀ s ∈ G.spares, M.nameOk s = true := by decide +kernel
        exact hw x hm
      · exact tag_name (tags_ok hp n)
end J
namespace J
open PySem PySem.Spec
open PyProof.Rows L2
theorem tags_nd {p : G.Pu} : ∀ n, n ≤ 5 → (G.tags p n).1.Nodup
  | 0, _ => List.nodup_nil
  | n + 1, hn => by
    have ih := tags_nd (p := p) n (by omega)
    show ((G.tags p n).1 ++ [G.freshTag (G.tags p n).1 (G.tag (G.tags p n).2).1]).Nodup
    refine List.nodup_append.mpr ⟨ih, by simp, fun a ha b hb => ?_⟩
    have : b = G.freshTag (G.tags p n).1 (G.tag (G.tags p n).2).1 := by simpa using hb
    rw [this]
    unfold G.freshTag
    split
    · obtain ⟨x, r, hx⟩ := spare_left (found := (G.tags p n).1) (by rw [tags_len]; omega)
      rw [hx]
      have hm := (List.mem_filter.mp (hx ▸ List.mem_cons_self : x ∈ G.spares.filter (fun s => decide (s ∉ (G.tags p n).1)))).2
      intro z
      have : x ∉ (G.tags p n).1 := by simpa using hm
      have z' : a = x := z
      exact this (z' ▸ ha)
    · rename_i h
      exact fun z => h (z ▸ ha)
theorem round_ok {lower tags : List Str} {p : G.Pu} (hp : p.ok) (ht : tags ≠ []) : (G.round lower tags p).2.ok := by
  obtain ⟨c0, c1, h1⟩ := G.draw_ok (m := 3) hp (by decide)
  obtain ⟨b0, b1, h2⟩ := G.draw_ok (m := 3) h1 (by decide)
  unfold G.round
  dsimp only
  generalize hb : (if (G.draw 3 p).1 = 0 ∧ 1 + (G.draw 3 (G.draw 3 p).2).1 = 1 ∧ lower = [] then (2 : Int) else 1 + (G.draw 3 (G.draw 3 p).2).1) = by_
  have hby : 1 ≤ by_ ∧ by_ ≤ 3 := by
    rw [← hb]
    split <;> omega
  obtain ⟨o1, _⟩ := overs_ok (b := by_.toNat) h2 (by omega)
  split
  · rename_i hc
    have hk : (if by_ = 1 then lower else tags) ≠ [] := by
      split
      · rename_i h
        intro z
        rw [z] at hb
        split at hb <;> simp_all
      · exact ht
    exact (G.run_ok (R := fun _ _ => True) _ _ (fun b _ q hq => ⟨trivial, (callPart_ok hq hk).1⟩) o1).2
  · exact (G.run_ok (R := fun _ _ => True) _ _ (fun b _ q hq => ⟨trivial, deed_ok hq⟩) o1).2
theorem mate_ok {tags : List Str} {mny : Int} {k : Nat} {p : G.Pu} (hp : p.ok) (ht : tags ≠ []) (hm : 0 < mny) : (G.mate tags mny k p).2.ok := by
  obtain ⟨_, _, h1⟩ := G.draw_ok (m := mny) hp hm
  have h2 := (G.run_ok (R := fun _ _ => True) (f := fun (_ : Nat) => G.round (tags.drop (k + 1)) tags) (List.range (1 + (G.draw mny p).1).toNat) _ (fun b _ q hq => ⟨trivial, round_ok hq ht⟩) h1).2
  exact (G.draw_ok (m := 4) (goal_ok h2) (by decide)).2.2
theorem matesN_ok {tags : List Str} {mny : Int} {p : G.Pu} (hp : p.ok) (ht : tags ≠ []) (hm : 0 < mny) : ∀ n, (G.matesN tags mny p n).2.ok
  | 0 => hp
  | n + 1 => mate_ok (matesN_ok hp ht hm n) ht hm
theorem matesN_len {tags : List Str} {mny : Int} {p : G.Pu} : ∀ n, (G.matesN tags mny p n).1.length = n
  | 0 => rfl
  | n + 1 => by
    show ((G.matesN tags mny p n).1 ++ [_]).length = n + 1
    rw [List.length_append, matesN_len n]
    rfl
theorem cut_from {l : List Str} {i : Nat} : M.cutL l (some ((i : Int) + 1)) none = l.drop (i + 1) := by
  unfold M.cutL
  have e : HT.sIx l.length 0 (some ((i : Int) + 1)) = min (i + 1) l.length := HT.sIx_nat l.length 0 (i + 1)
  rw [e, HT.sIx_none]
  by_cases h : i + 1 ≤ l.length
  · rw [Nat.min_eq_left h, List.take_of_length_le (by simp)]
  · rw [Nat.min_eq_right (by omega), List.drop_of_length_le (Nat.le_refl _), List.drop_of_length_le (by omega), List.take_nil]
theorem LCV.st {X : Cx} {elt tg iter : Expr} {ifs : List Expr} {scope : Scope} {own : List (Str × Nat)} {ρ : REnv} {μ μ1 μ2 : Sto} {out out2 : List PyData} (h : LCV X elt tg iter ifs scope own ρ μ out μ1) (q : μ1 = μ2) (q2 : out = out2) : LCV X elt tg iter ifs scope own ρ μ out2 μ2 := q ▸ q2 ▸ h
section
variable {w : World} {P : Program} {K : PySem.W.Frag} {base : Heap} {mg : Str → Option Value}
noncomputable abbrev nLM : List Str := ["_law_purse_here", "_law_most", "_law_many", "_law_tags_here", "_law_found", "_law_k", "_law_parts", "_law_turn"]
theorem scLMates : FnScope nLM ["_law_purse_here", "_law_most", "_law_many"] (defScope sLMates) := ⟨rfl, rfl, rfl, by decide +kernel, rfl, by decide +kernel, by decide +kernel⟩
noncomputable def cnMates : Con := fun rs μ r μ' => ∃ (k : Nat) (p : G.Pu) (most mny : Int), rs = [.ptr k, Ii most, Ii mny] ∧ (μ[k]? = some p.ds ∧ p.ok ∧ 1 ≤ most ∧ most ≤ 4 ∧ 1 ≤ mny ∧ mny ≤ 9) ∧ r = Ls ((G.mates most mny p).1.map G.Mate.d) ∧ μ' = μ.set k (G.mates most mny p).2.ds
theorem cMates (T : Bt mg) (C1 : CDraw P w K mg base) (C2 : Cal P w K mg base "_law_tags" 4 ["_law_purse_here", "_law_many"] cnTags) (C3 : Cal P w K mg base "_law_goal" 2 ["_law_purse_here"] cnGoal) (C4 : Cal P w K mg base "_law_round" 4 ["_law_purse_here", "_law_lower", "_law_tags_here"] cnRound) (D : Df K mg "_law_mates" sLMates) :
    Cal P w K mg base "_law_mates" 5 ["_law_purse_here", "_law_most", "_law_many"] cnMates := by
  refine D.cal scLMates (fun _ _ _ _ _ _ us hl => len3 us hl fun _ _ _ => rfl) (by decide) (fun rs μ r μ' h => by obtain ⟨_, _, _, _, _, _, _, rfl⟩ := h; simp) fun f cdv A outer s H E hr rs μ r μ' hC => ?_
  obtain ⟨k, p, most, mny, rfl, ⟨hk, hp, hm1, hm4, hy1, hy9⟩, rfl, rfl⟩ := hC
  have hkl := (List.getElem?_eq_some_iff.mp hk).1
  obtain ⟨c0, c1, hp1⟩ := G.draw_ok (m := most) hp (by omega)
  unfold G.mates
  dsimp only
  generalize hc : (G.draw most p).1 = c at *
  generalize hq1 : (G.draw most p).2 = q1 at *
  have hk1 := at_set (es := q1.ds) hk
  have hn5 : (1 + c).toNat ≤ 5 := by omega
  have htl := tags_len q1 (1 + c).toNat
  have htn := tags_names hp1 (1 + c).toNat hn5
  have hq2 := tags_ok hp1 (1 + c).toNat
  generalize htg : (G.tags q1 (1 + c).toNat).1 = tg at *
  generalize hq2e : (G.tags q1 (1 + c).toNat).2 = q2 at *
  have htne : tg ≠ [] := fun z => by rw [z] at htl; simp at htl; omega
  have hk2 := at_set (es := q2.ds) hk
  refine ST.set (i := 3) (r := Ls (tg.map .str)) (μ1 := μ.set k q2.ds) (EV.st (EV.call C2 hr (AV.cons (nm 0) (AV.cons (EV.eq (z' := Ii (((1 + c).toNat : Nat) : Int)) (oAdd EV.int (EV.drawE C1 hc hq1 hr (nm 0) (nm 1) hk hp (by omega) (by omega))) (by rw [show (((1 + c).toNat : Nat) : Int) = 1 + c by omega])) AV.nil)) ⟨k, (1 + c).toNat, q1, rfl, ⟨hk1, hp1, hn5⟩, by rw [htg], by rw [hq2e]⟩) sset) scLMates.nd rfl (Or.inr rfl) ?_
  refine ST.cell (i := 4) (EVF.lst (ds := []) AV.nil) scLMates.nd rfl (Or.inl rfl) ?_
  have hml : ∀ x, (μ.set k x).length = μ.length := fun x => List.length_set
  rw [hml]
  refine ST.for_ (is := [5]) (ds := rngD 0 tg.length) (IV.eqD (IV.rng1 (bLenL T (nm 3)) (by rw [List.length_map]; omega) (by rw [List.length_map]; omega) T.range) (by rw [List.length_map]; rfl)) (fun i ρ ν => (∃ a b c, ρ = [some (.ptr k), some (Ii most), some (Ii mny), some (Ls (tg.map .str)), some (.ptr μ.length), a, b, c]) ∧ ν = μ.set k (G.matesN tg mny q2 i).2.ds ++ [(G.matesN tg mny q2 i).1.map G.Mate.d]) ⟨⟨none, none, none, rfl⟩, rfl⟩ (fun i d ρ ν hd hI => ?_) (fun ρ ν hI => ?_)
  · obtain ⟨⟨a, b, c', rfl⟩, rfl⟩ := hI
    have hi : i < tg.length := by
      have := (List.getElem?_eq_some_iff.mp hd).1
      rwa [rngD_len] at this
    have hde : d = .int (i : Int) := by
      unfold rngD at hd
      rw [List.getElem?_map] at hd
      simp [hi] at hd
      exact hd.symm
    subst hde
    have hu := matesN_ok (mny := mny) hq2 htne (by omega) i
    have hml2 := matesN_len (tags := tg) (mny := mny) (p := q2) i
    have ht : G.matesN tg mny q2 (i + 1) = ((G.matesN tg mny q2 i).1 ++ [(G.mate tg mny i (G.matesN tg mny q2 i).2).1], (G.mate tg mny i (G.matesN tg mny q2 i).2).2) := rfl
    rw [ht]
    clear ht
    generalize (G.matesN tg mny q2 i).1 = fo at *
    generalize (G.matesN tg mny q2 i).2 = u at *
    obtain ⟨n0, n1, hu1⟩ := G.draw_ok (m := mny) hu (by omega)
    unfold G.mate
    dsimp only
    generalize hn : (G.draw mny u).1 = n at *
    generalize hv1 : (G.draw mny u).2 = v1 at *
    have hv2 := (G.run_ok (R := fun _ _ => True) (f := fun (_ : Nat) => G.round (tg.drop (i + 1)) tg) (List.range (1 + n).toNat) v1 (fun b _ q hq => ⟨trivial, round_ok hq htne⟩) hu1).2
    have gk : ∀ x, (μ.set k x ++ [fo.map G.Mate.d])[k]? = some x := fun x => by rw [ap_get (by rw [hml]; exact hkl)]; exact at_set hk
    have gs : ∀ x y, (μ.set k x ++ [fo.map G.Mate.d]).set k y = μ.set k y ++ [fo.map G.Mate.d] := fun x y => by rw [ap_set (by rw [hml]; exact hkl), sset]
    refine ⟨_, GV.name (i := 5) scLMates.nd rfl (by first | exact Or.inl rfl | exact Or.inr rfl) (by simp), ?_⟩
    refine ST.lc (i := 6) (own := [("_law_turn", 7)]) (LCV.st (LCV.run (k := k) (p := v1) (μ1 := μ.set k v1.ds ++ [fo.map G.Mate.d]) (bs := List.range (1 + n).toNat) (fun (i : Nat) => PyData.int (0 + (i : Int))) (fun r => .list (r.map G.Part.d)) (fun (_ : Nat) => G.round (tg.drop (i + 1)) tg) (IV.rng1 (EV.st (oAdd EV.int (EV.drawE C1 hn hv1 hr (nm 0) (nm 2) (gk _) hu (by omega) (by omega))) (gs _ _)) (by omega) (by omega) T.range) (gs _ _).symm hu1 (fun b _ q hq => round_ok hq htne) (fun b hb q hq => ?_) (by simp; omega)) (gs _ _) rfl) rfl scLMates.nd rfl rfl (blkOk_by (N := nLM) (sc := defScope sLMates) (by decide +kernel)) ?_ (sw_true rfl rfl rfl (by decide +kernel))
    · refine ⟨_, fun _ _ _ _ _ => GV.name (i := 7) scLMates.nd rfl (Or.inl rfl) (by simp), fun _ _ _ _ _ => ?_⟩
      rw [gs, gs]
      exact EV.call C4 hr (AV.cons (nm 0) (AV.cons (EV.eq (EV.slL (nm 3) (PartV.some (oAdd (nm 5) EV.int)) PartV.none) (congrArg Ls ((M.cutD_map _ _ _ _).trans (by rw [cut_from])))) (AV.cons (nm 3) AV.nil))) ⟨k, q, tg.drop (i + 1), tg, rfl, ⟨gk _, hq, fun s hs => htn s (List.mem_of_mem_drop hs), by omega, by omega, by rw [List.length_drop]; omega⟩, rfl, (gs _ _).symm⟩
    · generalize hrs : G.many (G.round (tg.drop (i + 1)) tg) (1 + n).toNat v1 = rs2
      have hrs' : G.run (fun (_ : Nat) => G.round (tg.drop (i + 1)) tg) (List.range (1 + n).toNat) v1 = rs2 := hrs
      rw [hrs'] at hv2 ⊢
      have hg := goal_ok hv2
      obtain ⟨e0, e1, _⟩ := G.draw_ok (m := 4) hg (by decide)
      have hti : (tg.map PyData.str)[i]? = some (.str (tg.getD i Str.empty)) := by
        rw [List.getElem?_map, List.getD_eq_getElem?_getD]
        simp [hi]
      refine ST.expr (r := Nn) (μ1 := μ.set k (G.draw 4 (G.goalD rs2.2).2).2.ds ++ [(fo ++ [(⟨tg.getD i Str.empty, (G.goalD rs2.2).1, 1 + (G.draw 4 (G.goalD rs2.2).2).1, rs2.1⟩ : G.Mate)]).map G.Mate.d]) (EV.st (EV.app (ds := fo.map G.Mate.d) (d := (⟨tg.getD i Str.empty, (G.goalD rs2.2).1, 1 + (G.draw 4 (G.goalD rs2.2).2).1, rs2.1⟩ : G.Mate).d) (nm 4) (EV.st (EV.tup (ds := [.str (tg.getD i Str.empty), goalP (G.goalD rs2.2).1, .int (1 + (G.draw 4 (G.goalD rs2.2).2).1), .list (rs2.1.map fun r => .list (r.map G.Part.d))]) (AV.cons (ixL (nm 3) (nm 5) (at_nat hti)) (AV.cons (EV.st (EV.call C3 (hr.mono (by decide)) (AV.cons (nm 0) AV.nil) ⟨k, rs2.2, rfl, ⟨gk _, hv2⟩, rfl, rfl⟩) (gs _ _)) (AV.cons (EV.st (oAdd EV.int (EV.draw C1 hr (nm 0) EV.int (gk _) hg)) (gs _ _)) (AV.cons (nm 6) AV.nil))))) rfl) ?_ (by rw [List.length_map]; omega)) ?_) (ST.nil ⟨⟨_, _, _, rfl⟩, rfl⟩)
      · have := at_last (μ := μ.set k (G.draw 4 (G.goalD rs2.2).2).2.ds) (x := fo.map G.Mate.d) (rest := [])
        rwa [hml] at this
      · have := set_last (μ := μ.set k (G.draw 4 (G.goalD rs2.2).2).2.ds) (x := fo.map G.Mate.d) (y := fo.map G.Mate.d ++ [(⟨tg.getD i Str.empty, (G.goalD rs2.2).1, 1 + (G.draw 4 (G.goalD rs2.2).2).1, rs2.1⟩ : G.Mate).d]) (rest := [])
        rw [hml] at this
        rw [this, List.map_append]
        rfl
  · obtain ⟨⟨a, b, c', rfl⟩, rfl⟩ := hI
    rw [rngD_len]
    refine ST.retP (nm 4) ?_ ?_
    · show (if μ.length < μ.length then _ else Ent.dat (PyData.list (List.getD _ _ _))) = _
      rw [if_neg (by omega)]
      have := at_last (μ := μ.set k (G.matesN tg mny q2 tg.length).2.ds) (x := (G.matesN tg mny q2 tg.length).1.map G.Mate.d) (rest := [])
      rw [hml] at this
      rw [List.getD_eq_getElem?_getD, this]
      rfl
    · rw [List.take_append_of_le_length (by rw [hml]; exact Nat.le_refl _)]
      exact take_set
end
end J
namespace G
open PySem J
structure PartOk (x : Part) : Prop where
  o : 0 ≤ x.over ∧ x.over ≤ 9
  b : 0 ≤ x.by_ ∧ x.by_ ≤ 9
  f : 0 ≤ x.far ∧ x.far ≤ 9
  w : x.word.length ≤ 8
  s : x.side.length ≤ 8
  t : x.tag.length ≤ 8
end G
namespace J
open PySem PySem.Spec
open PyProof.Rows L2
theorem ends_len {x : G.Part} (h : G.PartOk x) : (G.ends x).length = 6 := by
  unfold G.ends
  have e1 : (((" of " : String) : Str)).length = 4 := by decide +kernel
  rw [strLen_append, strLen_append, strI_len _ h.o.1 h.o.2, strI_len _ h.b.1 h.b.2, e1]
theorem clause_len {x : G.Part} (h : G.PartOk x) : (G.clause x).length ≤ 60 := by
  have he := ends_len h
  have h1 := h.w
  have h2 := h.s
  have h3 := h.t
  have h4 := strI_len _ h.f.1 h.f.2
  have e1 : ((("call " : String) : Str)).length = 5 := by decide +kernel
  have e2 : (((" on " : String) : Str)).length = 4 := by decide +kernel
  have e3 : ((("clear " : String) : Str)).length = 6 := by decide +kernel
  have e4 : (((" " : String) : Str)).length = 1 := by decide +kernel
  unfold G.clause
  split
  · rw [strLen_append, strLen_append, strLen_append]
    omega
  · split
    · rw [strLen_append]
      omega
    · rw [strLen_append, strLen_append, strLen_append, strLen_append, strLen_append, strLen_append]
      omega
theorem line_sum {r : List G.Part} (hl : r.length ≤ 9) (h : ∀ y ∈ r, G.PartOk y) : ((r.map G.clause).map (·.length)).sum + (r.map G.clause).length * (((("; " : String) : Str)).length) ≤ 600 := by
  have e1 : ((("; " : String) : Str)).length = 2 := by decide +kernel
  have h1 : ((r.map G.clause).map (·.length)).sum ≤ (r.map G.clause).length * 60 := sum_le _ _ _ fun x hx => by
    obtain ⟨y, hy, rfl⟩ := List.mem_map.mp hx
    exact clause_len (h y hy)
  rw [List.length_map] at h1 ⊢
  rw [e1]
  omega
theorem line_len {r : List G.Part} (hl : r.length ≤ 9) (h : ∀ y ∈ r, G.PartOk y) : (G.line r).length ≤ 600 := Nat.le_trans (join_le _ _) (line_sum hl h)
end J
namespace G
open PySem J
structure MateOk (x : Mate) : Prop where
  t : x.tag.length ≤ 8
  g : x.goal.1.length ≤ 8
  n : 0 ≤ x.goal.2 ∧ x.goal.2 ≤ 9
  b : 0 ≤ x.base ∧ x.base ≤ 9
  l : x.rounds.length ≤ 9
  r : ∀ r ∈ x.rounds, r.length ≤ 9 ∧ ∀ y ∈ r, PartOk y
noncomputable def headT (x : Mate) : Str := "plan " ++ x.tag ++ " " ++ aim x.goal ++ " base " ++ M.strI x.base
noncomputable def rowsT (x : Mate) : List Str := headT x :: x.rounds.map line
noncomputable def textOf (ms : List Mate) : Str := Txt.join "\n" (ms.flatMap rowsT)
end G
namespace J
open PySem PySem.Spec
open PyProof.Rows L2
theorem aim_len {x : G.Mate} (h : G.MateOk x) : (G.aim x.goal).length ≤ 10 := by
  have e4 : (((" " : String) : Str)).length = 1 := by decide +kernel
  have h1 := h.g
  have h2 := strI_len _ h.n.1 h.n.2
  unfold G.aim
  split
  · rw [strLen_append, strLen_append]
    omega
  · omega
section
variable {w : World} {P : Program} {K : PySem.W.Frag} {base : Heap} {mg : Str → Option Value}
noncomputable abbrev nLCl : List Str := ["_law_part", "_law_word", "_law_over", "_law_by", "_law_side", "_law_far", "_law_tag_here", "_law_ends"]
theorem scLClause : FnScope nLCl ["_law_part"] (defScope sLClause) := ⟨rfl, rfl, rfl, by decide +kernel, rfl, by decide +kernel, by decide +kernel⟩
noncomputable def cnClause : Con := fun rs μ r μ' => ∃ x : G.Part, rs = [.dat x.d] ∧ G.PartOk x ∧ r = Ss (G.clause x) ∧ μ' = μ
theorem cClause (T : Bt mg) (D : Df K mg "_law_clause" sLClause) : Cal P w K mg base "_law_clause" 1 ["_law_part"] cnClause := by
  refine D.cal scLClause (fun _ _ _ _ _ _ us hl => len1 us hl fun _ => rfl) (by decide) (fun rs μ r μ' h => by obtain ⟨_, _, _, _, rfl⟩ := h; rfl) fun f cdv A outer s H E hr rs μ r μ' hC => ?_
  obtain ⟨x, rfl, hx, rfl, rfl⟩ := hC
  have he := ends_len hx
  have l1 := hx.w
  have l2 := hx.s
  have l3 := hx.t
  have l4 := strI_len _ hx.f.1 hx.f.2
  have l5 := strI_len _ hx.o.1 hx.o.2
  have l6 := strI_len _ hx.b.1 hx.b.2
  have e1 : ((("call " : String) : Str)).length = 5 := by decide +kernel
  have e2 : (((" on " : String) : Str)).length = 4 := by decide +kernel
  have e3 : ((("clear " : String) : Str)).length = 6 := by decide +kernel
  have e4 : (((" " : String) : Str)).length = 1 := by decide +kernel
  have e5 : (((" of " : String) : Str)).length = 4 := by decide +kernel
  have big : ∀ n : Nat, n ≤ 100 → n ≤ sizeLine := fun n h => sz (by omega)
  refine ST.asg (is := [1, 2, 3, 4, 5, 6]) (nm 0) (GV.tup (GsV.cons (GV.name (i := 1) scLClause.nd rfl (Or.inl rfl) (by simp)) (GsV.cons (GV.name (i := 2) scLClause.nd rfl (Or.inl rfl) (by simp)) (GsV.cons (GV.name (i := 3) scLClause.nd rfl (Or.inl rfl) (by simp)) (GsV.cons (GV.name (i := 4) scLClause.nd rfl (Or.inl rfl) (by simp)) (GsV.cons (GV.name (i := 5) scLClause.nd rfl (Or.inl rfl) (by simp)) (GsV.cons (GV.name (i := 6) scLClause.nd rfl (Or.inl rfl) (by simp)) GsV.nil))))))) ?_
  have lo : ((toString x.over : String) : Str).length = 1 := l5
  have lb : ((toString x.by_ : String) : Str).length = 1 := l6
  have lf : ((toString x.far : String) : Str).length = 1 := l4
  refine ST.set (i := 7) (r := Ss (G.ends x)) (oAddS (oAddS (bStr T (nm 2) (log_dig hx.o)) EV.str (big _ (by rw [l5, e5]; decide))) (bStr T (nm 3) (log_dig hx.b)) (big _ (by rw [strLen_append, l5, l6, e5]; decide))) scLClause.nd rfl (Or.inl rfl) ?_
  unfold G.clause
  refine ST.ifR (tEq (nm 1) EV.str) (fun hb => ?_) (fun hb => ?_)
  · have hb' : x.word = "call" := eq_of_beq hb
    rw [if_pos hb']
    refine ST.retP (oAddS (oAddS (oAddS EV.str (nm 6) (big _ (by omega))) EV.str (big _ (by rw [strLen_append]; omega))) (nm 7) (big _ (by rw [strLen_append, strLen_append]; omega))) rfl
  · have hb' : ¬ x.word = "call" := fun z => by
      have h0 : (x.word == ("call" : Str)) = false := hb
      rw [z] at h0
      exact absurd h0 (by decide)
    rw [if_neg hb']
    refine ST.retP (r' := Ss (if x.word = "clear" then "clear " ++ G.ends x else x.word ++ " " ++ G.ends x ++ " " ++ x.side ++ " " ++ M.strI x.far)) (EV.ifx (μ2 := μ') (tEq (nm 1) EV.str) (fun hc => ?_) (fun hc => ?_)) rfl
    · have hc' : x.word = "clear" := eq_of_beq hc
      rw [if_pos hc']
      exact oAddS EV.str (nm 7) (big _ (by omega))
    · have hc' : ¬ x.word = "clear" := fun z => by
        have h0 : (x.word == ("clear" : Str)) = false := hc
        rw [z] at h0
        exact absurd h0 (by decide)
      rw [if_neg hc']
      refine oAddS (oAddS (oAddS (oAddS (oAddS (oAddS (nm 1) EV.str (big _ ?_)) (nm 7) (big _ ?_)) EV.str (big _ ?_)) (nm 4) (big _ ?_)) EV.str (big _ ?_)) (bStr T (nm 5) (log_dig hx.f)) (big _ ?_) <;> (try simp only [strLen_append]) <;> omega
theorem scLLine : FnScope ["_law_parts", "_law_part"] ["_law_parts"] (defScope sLLine) := ⟨rfl, rfl, rfl, by decide +kernel, rfl, by decide +kernel, by decide +kernel⟩
noncomputable def cnLine : Con := fun rs μ r μ' => ∃ x : List G.Part, rs = [Ls (x.map G.Part.d)] ∧ (x.length ≤ 9 ∧ ∀ y ∈ x, G.PartOk y) ∧ r = Ss (G.line x) ∧ μ' = μ
theorem cLnT (T : Bt mg) (C1 : Cal P w K mg base "_law_clause" 1 ["_law_part"] cnClause) (D : Df K mg "_law_line" sLLine) : Cal P w K mg base "_law_line" 2 ["_law_parts"] cnLine := by
  refine D.cal scLLine (fun _ _ _ _ _ _ us hl => len1 us hl fun _ => rfl) (by decide) (fun rs μ r μ' h => by obtain ⟨_, _, _, _, rfl⟩ := h; rfl) fun f cdv A outer s H E hr rs μ r μ' hC => ?_
  obtain ⟨x, rfl, ⟨hl, hx⟩, rfl, rfl⟩ := hC
  have hs := line_sum hl hx
  refine ST.retP (EV.join (ys := x.map G.clause) EV.str (EV.eq (LCV.evf (own := [("_law_part", 1)]) (LCV.mapT (α := G.Part) G.Part.d (fun y => .str (G.clause y)) (IV.lst (nm 0)) (fun y hy => ?_) (by omega)) rfl scLLine.nd (blkOk_by (N := ["_law_parts", "_law_part"]) (sc := defScope sLLine) (by decide +kernel))).ev (congrArg Ls (by rw [List.map_map]; rfl))) (by omega)) rfl
  exact ⟨_, fun _ _ _ _ _ => GV.name (i := 1) scLLine.nd rfl (Or.inl rfl) (by simp), fun _ _ _ _ _ => EV.call C1 hr (AV.cons (nm 1) AV.nil) ⟨y, rfl, hx y hy, rfl, rfl⟩⟩
theorem scLAim : FnScope ["_law_goal_here"] ["_law_goal_here"] (defScope sLAim) := ⟨rfl, rfl, rfl, by decide +kernel, rfl, by decide +kernel, by decide +kernel⟩
noncomputable def cnAim : Con := fun rs μ r μ' => ∃ g : Str × Int, rs = [.dat (goalP g)] ∧ (g.1.length ≤ 8 ∧ 0 ≤ g.2 ∧ g.2 ≤ 9) ∧ r = Ss (G.aim g) ∧ μ' = μ
theorem cAim (T : Bt mg) (D : Df K mg "_law_aim" sLAim) : Cal P w K mg base "_law_aim" 1 ["_law_goal_here"] cnAim := by
  refine D.cal scLAim (fun _ _ _ _ _ _ us hl => len1 us hl fun _ => rfl) (by decide) (fun rs μ r μ' h => by obtain ⟨_, _, _, _, rfl⟩ := h; rfl) fun f cdv A outer s H E hr rs μ r μ' hC => ?_
  obtain ⟨g, rfl, ⟨h1, h2, h3⟩, rfl, rfl⟩ := hC
  have e4 : (((" " : String) : Str)).length = 1 := by decide +kernel
  have l4 := strI_len _ h2 h3
  unfold G.aim
  have a0 : ([PyData.str g.1, .int g.2])[0]? = some (.str g.1) := rfl
  have a1 : ([PyData.str g.1, .int g.2])[1]? = some (.int g.2) := rfl
  refine ST.retP (r' := Ss (if g.1 = "last" then g.1 ++ " " ++ M.strI g.2 else g.1)) (EV.ifx (μ2 := μ') (tEq (ixT (nm 0) EV.int (at_nat a0)) EV.str) (fun hc => ?_) (fun hc => ?_)) rfl
  · have hc' : g.1 = "last" := eq_of_beq hc
    rw [if_pos hc']
    exact oAddS (oAddS (ixT (nm 0) EV.int (at_nat a0)) EV.str (sz (by omega))) (bStr T (ixT (nm 0) EV.int (at_nat a1)) (log_dig ⟨h2, h3⟩)) (sz (by rw [strLen_append]; omega))
  · have hc' : ¬ g.1 = "last" := fun z => by
      have h0 : (g.1 == ("last" : Str)) = false := hc
      rw [z] at h0
      exact absurd h0 (by decide)
    rw [if_neg hc']
    exact ixT (nm 0) EV.int (at_nat a0)
end
end J
namespace J
open PySem PySem.Spec
open PyProof.Rows L2
section
variable {w : World} {P : Program} {K : PySem.W.Frag} {base : Heap} {mg : Str → Option Value}
noncomputable abbrev nLTo : List Str := ["_law_mates_here", "_law_parts", "_law_tag_here", "_law_goal_here", "_law_base", "_law_lines"]
theorem scLTold : FnScope nLTo ["_law_mates_here"] (defScope sLTold) := ⟨rfl, rfl, rfl, by decide +kernel, rfl, by decide +kernel, by decide +kernel⟩
noncomputable def cnTold : Con := fun rs μ r μ' => ∃ ms : List G.Mate, rs = [Ls (ms.map G.Mate.d)] ∧ (ms.length ≤ 9 ∧ ∀ x ∈ ms, G.MateOk x) ∧ r = Tp (ms.map G.told) ∧ μ' = μ
theorem cTold (T : Bt mg) (C1 : Cal P w K mg base "_law_aim" 1 ["_law_goal_here"] cnAim) (C2 : Cal P w K mg base "_law_line" 2 ["_law_parts"] cnLine) (D : Df K mg "_law_told" sLTold) : Cal P w K mg base "_law_told" 3 ["_law_mates_here"] cnTold := by
  refine D.cal scLTold (fun _ _ _ _ _ _ us hl => len1 us hl fun _ => rfl) (by decide) (fun rs μ r μ' h => by obtain ⟨_, _, _, _, rfl⟩ := h; rfl) fun f cdv A outer s H E hr rs μ r μ' hC => ?_
  obtain ⟨ms, rfl, ⟨hl, hm⟩, rfl, rfl⟩ := hC
  refine ST.retP (bTupL T (LCV.evf (own := [("_law_tag_here", 2), ("_law_goal_here", 3), ("_law_base", 4), ("_law_lines", 5)]) (LCV.mapT (α := G.Mate) G.Mate.d G.told (IV.lst (nm 0)) (fun x hx => ?_) (by omega)) rfl scLTold.nd (blkOk_by (N := nLTo) (sc := defScope sLTold) (by decide +kernel))).ev) rfl
  have ho := hm x hx
  have hk := ho.l
  refine ⟨_, fun _ _ _ _ _ => GV.tup (GsV.cons (GV.name (i := 2) scLTold.nd rfl (by first | exact Or.inl rfl | exact Or.inr rfl) (by simp)) (GsV.cons (GV.name (i := 3) scLTold.nd rfl (by first | exact Or.inl rfl | exact Or.inr rfl) (by simp)) (GsV.cons (GV.name (i := 4) scLTold.nd rfl (by first | exact Or.inl rfl | exact Or.inr rfl) (by simp)) (GsV.cons (GV.name (i := 5) scLTold.nd rfl (by first | exact Or.inl rfl | exact Or.inr rfl) (by simp)) GsV.nil)))), fun _ _ _ _ _ => ?_⟩
  refine EV.tup (ds := [.str x.tag, .str (G.aim x.goal), .int x.base, .tuple (x.rounds.map fun r => .str (G.line r))]) (AV.cons (nm 2) (AV.cons (EV.call C1 (hr.mono (by decide)) (AV.cons (nm 3) AV.nil) ⟨x.goal, rfl, ⟨ho.g, ho.n.1, ho.n.2⟩, rfl, rfl⟩) (AV.cons (nm 4) (AV.cons (bTupL T (LCV.evf (own := [("_law_parts", 1)]) (LCV.mapT (α := List G.Part) (fun r => .list (r.map G.Part.d)) (fun r => .str (G.line r)) (IV.lst (nm 5)) (fun r hrr => ?_) (by omega)) rfl scLTold.nd (blkOk_by (N := nLTo) (by rfl))).ev) AV.nil))))
  exact ⟨_, fun _ _ _ _ _ => GV.name (i := 1) scLTold.nd rfl (Or.inl rfl) (by simp), fun _ _ _ _ _ => EV.call C2 hr (AV.cons (nm 1) AV.nil) ⟨r, rfl, ho.r r hrr, rfl, rfl⟩⟩
end
end J
namespace N
open PySem J L2
theorem join_flat {α : Type} (sep : Str) (f : α → List Str) : ∀ (xs : List α), (∀ x ∈ xs, f x ≠ []) → Str.join sep (xs.map fun x => Str.join sep (f x)) = Str.join sep (xs.flatMap f)
  | [], _ => rfl
  | [x], _ => by simp [Str.join]
  | x :: y :: xs, h => by
    have ih := join_flat sep f (y :: xs) fun z hz => h z (List.mem_cons_of_mem _ hz)
    have hy : (y :: xs).flatMap f ≠ [] := by
      rw [List.flatMap_cons]
      intro z
      exact h y (by simp) (List.append_eq_nil_iff.mp z).1
    have app : ∀ (as bs : List Str), as ≠ [] → bs ≠ [] → Str.join sep (as ++ bs) = Str.join sep as ++ sep ++ Str.join sep bs := by
      intro as
      induction as with
      | nil => intro bs h; exact absurd rfl h
      | cons a as ih =>
        intro bs _ hb
        cases as with
        | nil =>
          cases bs with
          | nil => exact absurd rfl hb
          | cons b bs => rfl
        | cons a2 as =>
          have := ih bs (List.cons_ne_nil _ _) hb
          show a ++ sep ++ Str.join sep ((a2 :: as) ++ bs) = (a ++ sep ++ Str.join sep (a2 :: as)) ++ sep ++ Str.join sep bs
          rw [this]
          simp only [Str.append_assoc]
    rw [List.flatMap_cons, app _ _ (h x List.mem_cons_self) hy, ← ih]
    rfl
theorem head_eq (x : G.Mate) : M.headText x.tag (G.aim x.goal) x.base = G.headT x := by
  show Str.empty ++ ((("plan " : String)) : Str) ++ x.tag ++ _ ++ _ ++ _ ++ _ = _
  rw [Str.empty_append]
  rfl
theorem text_eq (ms : List G.Mate) : M.bookText (ms.map G.told) = G.textOf ms := by
  unfold M.bookText G.textOf
  rw [List.map_map, TL.join_eq, TL.join_eq]
  have e : (M.planText ∘ G.told) = fun x => Str.join "\n" (G.rowsT x) := by
    funext x
    show Txt.join "\n" (M.headText x.tag (G.aim x.goal) x.base :: (x.rounds.map fun r => PyData.str (G.line r)).map M.strOf) = _
    rw [TL.join_eq, head_eq, List.map_map]
    rfl
  rw [e]
  exact join_flat _ _ _ fun x _ => List.cons_ne_nil _ _
end N
namespace N
open PySem J L2
structure PartGood (x : G.Part) : Prop where
  b : 1 ≤ x.by_ ∧ x.by_ ≤ 3
  o : 0 ≤ x.over ∧ x.over < x.by_
  k : (x.word = "call" ∧ M.nameOk x.tag = true ∧ x.far = 0 ∧ x.side = Str.empty) ∨ (x.word = "clear" ∧ x.far = 0 ∧ x.side = Str.empty ∧ x.tag = Str.empty) ∨ ((x.word = "join" ∨ x.word = "take") ∧ (x.side = "left" ∨ x.side = "right") ∧ 1 ≤ x.far ∧ x.far ≤ 4 ∧ x.tag = Str.empty)
noncomputable def more (x : G.Part) : PyData := if x.word = "call" then .str x.tag else if x.word = "clear" then .int 0 else if x.side = "right" then .int x.far else .int (-x.far)
noncomputable def clauseOf (x : G.Part) : PyData := .tuple [.str x.word, .int x.over, .int x.by_, more x]
noncomputable def wordsOf (x : G.Part) : List Str :=
  if x.word = "call" then ["call", x.tag, "on", M.strI x.over, "of", M.strI x.by_]
  else if x.word = "clear" then ["clear", M.strI x.over, "of", M.strI x.by_]
  else [x.word, M.strI x.over, "of", M.strI x.by_, x.side, M.strI x.far]
theorem clause_words (x : G.Part) : G.clause x = Txt.join sp (wordsOf x) := by
  have e1 : (("call " : String) : Str) = "call" ++ sp := by decide +kernel
  have e2 : ((" on " : String) : Str) = sp ++ ("on" ++ sp) := by decide +kernel
  have e3 : ((" of " : String) : Str) = sp ++ ("of" ++ sp) := by decide +kernel
  have e4 : (("clear " : String) : Str) = "clear" ++ sp := by decide +kernel
  have e5 : ((" " : String) : Str) = sp := rfl
  rw [TL.join_eq]
  unfold G.clause wordsOf G.ends
  split
  · show _ = ("call" : Str) ++ sp ++ (x.tag ++ sp ++ ("on" ++ sp ++ (M.strI x.over ++ sp ++ ("of" ++ sp ++ M.strI x.by_))))
    rw [e1, e2, e3]
    simp only [Str.append_assoc]
  · split
    · show _ = ("clear" : Str) ++ sp ++ (M.strI x.over ++ sp ++ ("of" ++ sp ++ M.strI x.by_))
      rw [e4, e3]
      simp only [Str.append_assoc]
    · show _ = x.word ++ sp ++ (M.strI x.over ++ sp ++ ("of" ++ sp ++ (M.strI x.by_ ++ sp ++ (x.side ++ sp ++ M.strI x.far))))
      rw [e3, e5]
      simp only [Str.append_assoc]
theorem words_plain {x : G.Part} (h : PartGood x) : ∀ y ∈ wordsOf x, Plain y := by
  have p1 := plain_dig (i := x.over) (by have := h.o; omega) (by have := h.o; have := h.b; omega)
  have p2 := plain_dig (i := x.by_) (by have := h.b; omega) (by have := h.b; omega)
  have q1 : Plain "call" := by unfold Plain; decide +kernel
  have q2 : Plain "on" := by unfold Plain; decide +kernel
  have q3 : Plain "of" := by unfold Plain; decide +kernel
  have q4 : Plain "clear" := by unfold Plain; decide +kernel
  have q5 : Plain "join" := by unfold Plain; decide +kernel
  have q6 : Plain "take" := by unfold Plain; decide +kernel
  have q7 : Plain "left" := by unfold Plain; decide +kernel
  have q8 : Plain "right" := by unfold Plain; decide +kernel
  unfold wordsOf
  rcases h.k with ⟨hw, hn, _, _⟩ | ⟨hw, _⟩ | ⟨hw, hs, f1, f4, _⟩
  · rw [if_pos hw]
    have p3 := plain_name hn
    intro y hy
    simp only [List.mem_cons, List.not_mem_nil, or_false] at hy
    rcases hy with rfl | rfl | rfl | rfl | rfl | rfl <;> assumption
  · rw [if_neg (by rw [hw]; decide +kernel), if_pos hw]
    intro y hy
    simp only [List.mem_cons, List.not_mem_nil, or_false] at hy
    rcases hy with rfl | rfl | rfl | rfl <;> assumption
  · rw [if_neg (by rcases hw with hw | hw <;> rw [hw] <;> decide +kernel), if_neg (by rcases hw with hw | hw <;> rw [hw] <;> decide +kernel)]
    have p3 := plain_dig (i := x.far) (by omega) (by omega)
    have p4 : Plain x.word := by rcases hw with hw | hw <;> rw [hw] <;> assumption
    have p5 : Plain x.side := by rcases hs with hs | hs <;> rw [hs] <;> assumption
    intro y hy
    simp only [List.mem_cons, List.not_mem_nil, or_false] at hy
    rcases hy with rfl | rfl | rfl | rfl | rfl | rfl <;> assumption
theorem words_ne (x : G.Part) : wordsOf x ≠ [] := by
  unfold wordsOf
  split
  · simp
  · split <;> simp
theorem clause_split {x : G.Part} (h : PartGood x) : Txt.split (G.clause x) " " = wordsOf x := by
  rw [clause_words]
  exact split_join (sep := sp) (c := 32) (r := []) sp_tl sp_256 (words_ne x) fun y hy => (words_plain h y hy).1
theorem clause_free {x : G.Part} (h : PartGood x) : 59 ∉ TL.tl (G.clause x) := by
  rw [clause_words]
  intro z
  rcases join_mem z with h1 | ⟨y, hy, h1⟩
  · rw [sp_tl] at h1
    simp at h1
  · exact (words_plain h y hy).2 h1
theorem clause_read {x : G.Part} (h : PartGood x) : M.readClause (G.clause x) = clauseOf x := by
  have hs := clause_split h
  have d1 : M.readDigit (M.strI x.by_) 1 3 = .int x.by_ := dig_in (by decide) h.b.1 h.b.2 (by decide)
  have d2 : M.readDigit (M.strI x.over) 0 (x.by_ - 1) = .int x.over := dig_in (by decide) h.o.1 (by have := h.o; omega) (by have := h.b; omega)
  have hc : M.readClass [M.strI x.over, "of", M.strI x.by_] = .tuple [.int x.over, .int x.by_] := by
    unfold M.readClass
    dsimp only
    rw [d1]
    dsimp only
    rw [d2]
    rfl
  unfold M.readClause
  rw [hs]
  unfold wordsOf clauseOf more
  rcases h.k with ⟨hw, hn, _, _⟩ | ⟨hw, _⟩ | ⟨hw, hsd, f1, f4, _⟩
  · rw [if_pos hw, if_pos hw, hw]
    dsimp only
    rw [if_neg (by decide +kernel), if_neg (by decide +kernel), if_pos (by decide +kernel)]
    rw [if_pos (by rw [hn]; decide +kernel)]
    show M.putClause _ (M.readClass [M.strI x.over, "of", M.strI x.by_]) _ = _
    rw [hc]
    rfl
  · have n1 : ¬ x.word = "call" := by rw [hw]; decide +kernel
    rw [if_neg n1, if_neg n1, if_pos hw, if_pos hw, hw]
    dsimp only
    rw [if_neg (by decide +kernel), if_pos (by decide +kernel)]
    show M.putClause _ (M.readClass [M.strI x.over, "of", M.strI x.by_]) _ = _
    rw [hc]
    rfl
  · have n1 : ¬ x.word = "call" := by rcases hw with hw | hw <;> rw [hw] <;> decide +kernel
    have n2 : ¬ x.word = "clear" := by rcases hw with hw | hw <;> rw [hw] <;> decide +kernel
    have n3 : inD (.str x.word) [.str "join", .str "take"] = true := by rcases hw with hw | hw <;> rw [hw] <;> decide +kernel
    rw [if_neg n1, if_neg n1, if_neg n2, if_neg n2]
    dsimp only
    rw [if_pos n3]
    show M.putClause _ (M.readClass [M.strI x.over, "of", M.strI x.by_]) (M.readWay [x.side, M.strI x.far]) = _
    have hwy : M.readWay [x.side, M.strI x.far] = if x.side = "right" then .int x.far else .int (-x.far) := by
      have d3 : M.readDigit (M.strI x.far) 1 4 = .int x.far := dig_in (by decide) f1 f4 (by decide)
      unfold M.readWay
      dsimp only
      rw [if_pos (by rcases hsd with hsd | hsd <;> rw [hsd] <;> decide +kernel), d3]
      dsimp only
      rcases hsd with hsd | hsd
      · rw [hsd, if_neg (by decide +kernel), if_neg (by decide +kernel)]
      · rw [hsd, if_pos (by decide +kernel), if_pos rfl]
    rw [hc, hwy]
    split <;> rfl
end N
namespace N
open PySem J L2
structure RoundGood (lower tags : List Str) (r : List G.Part) : Prop where
  len : 1 ≤ r.length ∧ r.length ≤ 3
  good : ∀ x ∈ r, PartGood x
  by_ : ∃ b, ∀ x ∈ r, x.by_ = b
  nd : (r.map (·.over)).Nodup
  calls : (∀ x ∈ r, x.word = "call" ∧ x.tag ∈ (if x.by_ = 1 then lower else tags)) ∨ (∀ x ∈ r, x.word ≠ "call")
theorem line_split {r : List G.Part} (hne : r ≠ []) (h : ∀ x ∈ r, PartGood x) : Txt.split (G.line r) "; " = r.map G.clause := by
  unfold G.line
  refine split_join (c := 59) (r := [32]) (by decide +kernel) (by decide +kernel) (by simpa using hne) fun y hy => ?_
  obtain ⟨x, hx, rfl⟩ := List.mem_map.mp hy
  exact clause_free (h x hx)
theorem share_no {x y : G.Part} {b : Int} (hx : x.by_ = b) (hy : y.by_ = b) (hn : x.over ≠ y.over) : M.share (clauseOf x) (clauseOf y) = false := by
  show (rngD 0 (x.by_ * y.by_).toNat).any (M.hit x.over x.by_ y.over y.by_) = false
  rw [List.any_eq_false]
  intro d hd z
  unfold rngD at hd
  obtain ⟨k, _, rfl⟩ := List.mem_map.mp hd
  have z' : (((0 + (k : Int)) % x.by_ == x.over) && ((0 + (k : Int)) % y.by_ == y.over)) = true := z
  rw [Bool.and_eq_true, hx, hy] at z'
  exact hn ((eq_of_beq z'.1).symm.trans (eq_of_beq z'.2))
theorem cut_to {cs : List PyData} {i : Nat} : cutD cs none (some (i : Int)) = cs.take (min i cs.length) := by
  unfold cutD
  rw [HT.sIx_nat, HT.sIx_none, List.drop_zero, Nat.sub_zero]
theorem fit_yes {lower tags : List Str} {r : List G.Part} (h : RoundGood lower tags r) : M.fit (r.map clauseOf) = true := by
  have hc : ∀ x : G.Part, M.isCall (clauseOf x) = (x.word == "call") := fun x => rfl
  have e1 : (((r.map clauseOf).map M.isCall).any id && !(((r.map clauseOf).map M.isCall).all id)) = false := by
    rw [List.map_map]
    rcases h.calls with hk | hk
    · have : (r.map (M.isCall ∘ clauseOf)).all id = true := by
        rw [List.all_map, List.all_eq_true]
        intro x hx
        show M.isCall (clauseOf x) = true
        rw [hc, (hk x hx).1]
        exact beq_self_eq_true _
      rw [this]
      simp
    · have : (r.map (M.isCall ∘ clauseOf)).any id = false := by
        rw [List.any_map, List.any_eq_false]
        intro x hx z
        have z' : M.isCall (clauseOf x) = true := z
        rw [hc] at z'
        exact hk x hx (eq_of_beq z')
      rw [this]
      simp
  unfold M.fit
  rw [if_neg (by rw [e1]; exact Bool.false_ne_true), Bool.not_eq_true', List.any_eq_false]
  intro v hv z
  obtain ⟨d, hd, hv2⟩ := List.mem_flatMap.mp hv
  obtain ⟨o, ho, rfl⟩ := List.mem_map.mp hv2
  obtain ⟨i, c, hci, rfl⟩ := enD_mem hd
  have z' : M.share c o = true := z
  have e0 : ((0 + i : Nat) : Int) = (i : Int) := by omega
  have ho' : o ∈ cutD (r.map clauseOf) none (some ((0 + i : Nat) : Int)) := ho
  rw [e0, cut_to] at ho'
  obtain ⟨j, hj, ej⟩ := List.mem_take_iff_getElem.mp ho'
  rw [List.getElem?_map] at hci
  cases q : r[i]? with
  | none => rw [q] at hci; cases hci
  | some x =>
    rw [q] at hci
    have ec : clauseOf x = c := by simpa using hci
    have hjl : j < r.length := by
      have : j < min (min i (r.map clauseOf).length) (r.map clauseOf).length := hj
      rw [List.length_map] at this
      omega
    have hji : j < i := by
      have : j < min (min i (r.map clauseOf).length) (r.map clauseOf).length := hj
      omega
    rw [List.getElem_map] at ej
    obtain ⟨hil, ei⟩ := List.getElem?_eq_some_iff.mp q
    obtain ⟨b, hb⟩ := h.by_
    rw [← ec, ← ej, share_no (hb _ (List.mem_iff_getElem?.mpr ⟨i, q⟩)) (hb _ (List.getElem_mem hjl)) ?_] at z'
    · cases z'
    · have hp := List.pairwise_iff_getElem.mp h.nd j i (by simpa using hjl) (by simpa using hil) hji
      rw [List.getElem_map, List.getElem_map] at hp
      rw [← ei]
      exact fun w => hp w.symm
theorem round_read {lower tags : List Str} {r : List G.Part} (h : RoundGood lower tags r) : M.readRound (.str (G.line r)) = .tuple (r.map clauseOf) := by
  have hne : r ≠ [] := fun z => by have := h.len.1; rw [z] at this; simp at this
  have e : (Txt.split (G.line r) "; ").map M.readClause = r.map clauseOf := by
    rw [line_split hne h.good, List.map_map]
    exact List.map_congr_left fun x hx => clause_read (h.good x hx)
  unfold M.readRound
  dsimp only
  rw [e, if_neg (by rw [List.length_map]; have := h.len; omega), if_neg, if_pos (fit_yes h)]
  rw [List.any_map]
  intro z
  obtain ⟨x, _, hx⟩ := List.any_eq_true.mp z
  cases hx
theorem cut_all {l : List Str} : M.cutL l (some 0) none = l := by
  unfold M.cutL
  have e : HT.sIx l.length 0 (some 0) = min 0 l.length := HT.sIx_nat l.length 0 0
  rw [e, HT.sIx_none]
  simp
theorem round_stands {tags : List Str} {i : Nat} {r : List G.Part} (h : RoundGood (tags.drop (i + 1)) tags r) : M.canStand (.str (G.line r)) tags (i : Int) = true := by
  unfold M.canStand
  rw [round_read h]
  dsimp only
  rw [List.all_map, List.all_eq_true]
  intro x hx
  show (!(x.word == "call" && !inD (more x) ((M.cutL tags (some (if x.by_ == 1 then (i : Int) + 1 else 0)) none).map .str))) = true
  rcases h.calls with hk | hk
  · obtain ⟨h1, h2⟩ := hk x hx
    have em : more x = .str x.tag := if_pos h1
    rw [em, inD_strs]
    have : x.tag ∈ M.cutL tags (some (if x.by_ == 1 then (i : Int) + 1 else 0)) none := by
      by_cases hb : x.by_ = 1
      · rw [if_pos hb] at h2
        rw [if_pos (by rw [hb]; rfl), cut_from]
        exact h2
      · rw [if_neg hb] at h2
        rw [if_neg (by simpa using hb), cut_all]
        exact h2
    rw [decide_eq_true this]
    simp
  · have : (x.word == "call") = false := beq_eq_false_iff_ne.mpr (hk x hx)
    rw [this]
    rfl
theorem run_map {α β γ : Type} {f : β → G.Pu → α × G.Pu} {φ : α → γ} {ψ : β → γ} (h : ∀ b q, φ (f b q).1 = ψ b) : ∀ (bs : List β) (p : G.Pu), (G.run f bs p).1.map φ = bs.map ψ
  | [], p => rfl
  | b :: bs, p => by
    show φ (f b p).1 :: (G.run f bs (f b p).2).1.map φ = ψ b :: bs.map ψ
    rw [h, run_map h bs]
theorem deed_over (b o : Int) (q : G.Pu) : (G.deed o b q).1.over = o ∧ (G.deed o b q).1.by_ = b := by
  unfold G.deed
  dsimp only
  split <;> exact ⟨rfl, rfl⟩
theorem deed_kind (b o : Int) {q : G.Pu} (hq : q.ok) : ((G.deed o b q).1.word = "clear" ∧ (G.deed o b q).1.far = 0 ∧ (G.deed o b q).1.side = Str.empty ∧ (G.deed o b q).1.tag = Str.empty) ∨ (((G.deed o b q).1.word = "join" ∨ (G.deed o b q).1.word = "take") ∧ ((G.deed o b q).1.side = "left" ∨ (G.deed o b q).1.side = "right") ∧ 1 ≤ (G.deed o b q).1.far ∧ (G.deed o b q).1.far ≤ 4 ∧ (G.deed o b q).1.tag = Str.empty) := by
  obtain ⟨w1, w2⟩ := G.pick_ok (d := Str.empty) (l := ["join", "join", "take", "clear"]) hq (by decide)
  obtain ⟨s1, s2⟩ := G.pick_ok (d := Str.empty) (l := ["left", "right"]) w2 (by decide)
  obtain ⟨f0, f1, _⟩ := G.draw_ok (m := 4) s2 (by decide)
  unfold G.deed
  dsimp only
  split
  · exact .inl ⟨rfl, rfl, rfl, rfl⟩
  · rename_i hn
    refine .inr ⟨?_, ?_, ?_, ?_, rfl⟩
    · simp only [List.mem_cons, List.not_mem_nil, or_false] at w1
      rcases w1 with h | h | h | h
      · exact .inl h
      · exact .inl h
      · exact .inr h
      · exact absurd h hn
    · simp only [List.mem_cons, List.not_mem_nil, or_false] at s1
      exact s1
    · dsimp only
      omega
    · dsimp only
      omega
theorem round_good {lower tags : List Str} {p : G.Pu} (hp : p.ok) (ht : tags ≠ []) (hn : NamesOk tags) (hl : NamesOk lower) : RoundGood lower tags (G.round lower tags p).1 := by
  obtain ⟨c0, c1, h1⟩ := G.draw_ok (m := 3) hp (by decide)
  obtain ⟨b0, b1, h2⟩ := G.draw_ok (m := 3) h1 (by decide)
  unfold G.round
  dsimp only
  generalize hb : (if (G.draw 3 p).1 = 0 ∧ 1 + (G.draw 3 (G.draw 3 p).2).1 = 1 ∧ lower = [] then (2 : Int) else 1 + (G.draw 3 (G.draw 3 p).2).1) = by_
  have hby : 1 ≤ by_ ∧ by_ ≤ 3 := by
    rw [← hb]
    split <;> omega
  obtain ⟨o1, o2, o3, o4, o5⟩ := overs_ok (b := by_.toNat) h2 (by omega)
  generalize (G.overs by_.toNat (G.draw 3 (G.draw 3 p).2).2).1 = os at *
  generalize (G.overs by_.toNat (G.draw 3 (G.draw 3 p).2).2).2 = u at *
  split
  · rename_i hc
    have hk : (if by_ = 1 then lower else tags) ≠ [] := by
      split
      · rename_i h
        intro z
        rw [z] at hb
        split at hb <;> simp_all
      · exact ht
    have hkn : NamesOk (if by_ = 1 then lower else tags) := by
      split
      · exact hl
      · exact hn
    have hx : ∀ x ∈ (G.run (G.callPart by_ (if by_ = 1 then lower else tags)) os u).1, x.by_ = by_ ∧ x.word = "call" ∧ x.tag ∈ (if by_ = 1 then lower else tags) ∧ x.far = 0 ∧ x.side = Str.empty ∧ x.over ∈ os := by
      intro x hx
      obtain ⟨o, ho, r⟩ := (G.run_ok (R := fun o (x : G.Part) => x.by_ = by_ ∧ x.word = "call" ∧ x.tag ∈ (if by_ = 1 then lower else tags) ∧ x.far = 0 ∧ x.side = Str.empty ∧ x.over = o) os u (fun o ho q hq => ⟨⟨rfl, rfl, (callPart_ok hq hk).2, rfl, rfl, rfl⟩, (callPart_ok hq hk).1⟩) o1).1 x hx
      exact ⟨r.1, r.2.1, r.2.2.1, r.2.2.2.1, r.2.2.2.2.1, r.2.2.2.2.2 ▸ ho⟩
    refine ⟨?_, fun x h => ?_, ⟨by_, fun x h => (hx x h).1⟩, ?_, .inl fun x h => ?_⟩
    · rw [G.run_len]
      omega
    · obtain ⟨x1, x2, x3, x4, x5, x6⟩ := hx x h
      have := o5 _ x6
      exact ⟨by omega, by rw [x1]; omega, .inl ⟨x2, hkn _ x3, x4, x5⟩⟩
    · rw [run_map (ψ := id) (fun b q => rfl), List.map_id]
      exact o4
    · obtain ⟨x1, x2, x3, x4, x5, x6⟩ := hx x h
      exact ⟨x2, by rw [x1]; exact x3⟩
  · have hx : ∀ x ∈ (G.run (fun o => G.deed o by_) os u).1, x.by_ = by_ ∧ x.over ∈ os ∧ ((x.word = "clear" ∧ x.far = 0 ∧ x.side = Str.empty ∧ x.tag = Str.empty) ∨ ((x.word = "join" ∨ x.word = "take") ∧ (x.side = "left" ∨ x.side = "right") ∧ 1 ≤ x.far ∧ x.far ≤ 4 ∧ x.tag = Str.empty)) := by
      intro x hx
      obtain ⟨o, ho, r⟩ := (G.run_ok (R := fun o (x : G.Part) => x.by_ = by_ ∧ x.over = o ∧ ((x.word = "clear" ∧ x.far = 0 ∧ x.side = Str.empty ∧ x.tag = Str.empty) ∨ ((x.word = "join" ∨ x.word = "take") ∧ (x.side = "left" ∨ x.side = "right") ∧ 1 ≤ x.far ∧ x.far ≤ 4 ∧ x.tag = Str.empty))) os u (fun o ho q hq => ⟨⟨(deed_over by_ o q).2, (deed_over by_ o q).1, deed_kind by_ o hq⟩, deed_ok hq⟩) o1).1 x hx
      exact ⟨r.1, r.2.1 ▸ ho, r.2.2⟩
    refine ⟨?_, fun x h => ?_, ⟨by_, fun x h => (hx x h).1⟩, ?_, .inr fun x h => ?_⟩
    · rw [G.run_len]
      omega
    · obtain ⟨x1, x2, x3⟩ := hx x h
      have := o5 _ x2
      exact ⟨by omega, by rw [x1]; omega, .inr x3⟩
    · rw [run_map (ψ := id) (fun b q => (deed_over by_ b q).1), List.map_id]
      exact o4
    · obtain ⟨x1, x2, x3⟩ := hx x h
      rcases x3 with ⟨z, _⟩ | ⟨z | z, _⟩ <;> rw [z] <;> decide +kernel
end N
namespace N
open PySem J L2
theorem part_ok {x : G.Part} (h : PartGood x) : G.PartOk x := by
  have e0 : (Str.empty).length = 0 := by decide +kernel
  have e1 : ((("call" : String) : Str)).length = 4 := by decide +kernel
  have e2 : ((("clear" : String) : Str)).length = 5 := by decide +kernel
  have e3 : ((("join" : String) : Str)).length = 4 := by decide +kernel
  have e4 : ((("take" : String) : Str)).length = 4 := by decide +kernel
  have e5 : ((("left" : String) : Str)).length = 4 := by decide +kernel
  have e6 : ((("right" : String) : Str)).length = 5 := by decide +kernel
  have hb := h.b
  have ho := h.o
  rcases h.k with ⟨a, b, c, d⟩ | ⟨a, b, c, d⟩ | ⟨a, b, c, d, e⟩
  · have := (M.name_signs b).2.1
    exact ⟨by omega, by omega, by omega, by rw [a]; omega, by rw [d]; omega, by omega⟩
  · exact ⟨by omega, by omega, by omega, by rw [a]; omega, by rw [c]; omega, by rw [d]; omega⟩
  · refine ⟨by omega, by omega, by omega, ?_, ?_, by rw [e]; omega⟩
    · rcases a with a | a <;> rw [a] <;> omega
    · rcases b with b | b <;> rw [b] <;> omega
theorem lo_words {x : G.Part} (h : PartGood x) : ∀ y ∈ wordsOf x, Lo y := by
  have p1 := lo_dig (i := x.over) (by have := h.o; omega) (by have := h.o; have := h.b; omega)
  have p2 := lo_dig (i := x.by_) (by have := h.b; omega) (by have := h.b; omega)
  have q1 : Lo "call" := by unfold Lo; decide +kernel
  have q2 : Lo "on" := by unfold Lo; decide +kernel
  have q3 : Lo "of" := by unfold Lo; decide +kernel
  have q4 : Lo "clear" := by unfold Lo; decide +kernel
  have q5 : Lo "join" := by unfold Lo; decide +kernel
  have q6 : Lo "take" := by unfold Lo; decide +kernel
  have q7 : Lo "left" := by unfold Lo; decide +kernel
  have q8 : Lo "right" := by unfold Lo; decide +kernel
  unfold wordsOf
  rcases h.k with ⟨hw, hn, _, _⟩ | ⟨hw, _⟩ | ⟨hw, hs, f1, f4, _⟩
  · rw [if_pos hw]
    have p3 := lo_name hn
    intro y hy
    simp only [List.mem_cons, List.not_mem_nil, or_false] at hy
    rcases hy with rfl | rfl | rfl | rfl | rfl | rfl <;> assumption
  · rw [if_neg (by rw [hw]; decide +kernel), if_pos hw]
    intro y hy
    simp only [List.mem_cons, List.not_mem_nil, or_false] at hy
    rcases hy with rfl | rfl | rfl | rfl <;> assumption
  · rw [if_neg (by rcases hw with hw | hw <;> rw [hw] <;> decide +kernel), if_neg (by rcases hw with hw | hw <;> rw [hw] <;> decide +kernel)]
    have p3 := lo_dig (i := x.far) (by omega) (by omega)
    have p4 : Lo x.word := by rcases hw with hw | hw <;> rw [hw] <;> assumption
    have p5 : Lo x.side := by rcases hs with hs | hs <;> rw [hs] <;> assumption
    intro y hy
    simp only [List.mem_cons, List.not_mem_nil, or_false] at hy
    rcases hy with rfl | rfl | rfl | rfl | rfl | rfl <;> assumption
end N
namespace N
open PySem J L2
theorem goal_good {p : G.Pu} (hp : p.ok) : M.isGoal (.str (G.aim (G.goalD p).1)) = true ∧ (G.goalD p).1.1.length ≤ 8 ∧ 0 ≤ (G.goalD p).1.2 ∧ (G.goalD p).1.2 ≤ 9 := by
  obtain ⟨a0, a1, hp1⟩ := G.draw_ok (m := 4) hp (by decide)
  obtain ⟨b0, b1, _⟩ := G.draw_ok (m := 4) hp1 (by decide)
  unfold G.goalD
  dsimp only
  split
  · rename_i h
    have hw : ∀ i : _root_.Fin 2, M.isGoal (.str (G.aim (G.nth Str.empty ["all", "before"] (i.val : Int), 0))) = true ∧ (G.nth Str.empty ["all", "before"] (i.val : Int)).length ≤ 8 := by decide +kernel
    have := hw ⟨(G.draw 4 p).1.toNat, by omega⟩
    rw [show (((G.draw 4 p).1.toNat : Nat) : Int) = (G.draw 4 p).1 by omega] at this
    exact ⟨this.1, this.2, (by decide : (0 : Int) ≤ 0), (by decide : (0 : Int) ≤ 9)⟩
  · have hw : ∀ i : _root_.Fin 4, M.isGoal (.str (G.aim ("last", 1 + (i.val : Int)))) = true := by decide +kernel
    have := hw ⟨(G.draw 4 (G.draw 4 p).2).1.toNat, by omega⟩
    rw [show (((G.draw 4 (G.draw 4 p).2).1.toNat : Nat) : Int) = (G.draw 4 (G.draw 4 p).2).1 by omega] at this
    refine ⟨this, ?_, ?_, ?_⟩
    · show ((("last" : String) : Str)).length ≤ 8
      decide +kernel
    · dsimp only
      omega
    · dsimp only
      omega
end N
namespace N
open PySem J L2
structure MateGood (tags : List Str) (i : Nat) (x : G.Mate) : Prop where
  tag : tags[i]? = some x.tag
  goal : M.isGoal (.str (G.aim x.goal)) = true ∧ x.goal.1.length ≤ 8 ∧ 0 ≤ x.goal.2 ∧ x.goal.2 ≤ 9
  base : 1 ≤ x.base ∧ x.base ≤ 4
  many : 1 ≤ x.rounds.length ∧ x.rounds.length ≤ 5
  rounds : ∀ r ∈ x.rounds, RoundGood (tags.drop (i + 1)) tags r
theorem mate_good {tags : List Str} {mny : Int} {i : Nat} {p : G.Pu} (hp : p.ok) (hi : i < tags.length) (hn : NamesOk tags) (h1 : 1 ≤ mny) (h5 : mny ≤ 5) : MateGood tags i (G.mate tags mny i p).1 := by
  have ht : tags ≠ [] := fun z => by rw [z] at hi; simp at hi
  obtain ⟨n0, n1, hp1⟩ := G.draw_ok (m := mny) hp (by omega)
  obtain ⟨r1, r2⟩ := G.run_ok (R := fun _ r => RoundGood (tags.drop (i + 1)) tags r) (f := fun (_ : Nat) => G.round (tags.drop (i + 1)) tags) (List.range (1 + (G.draw mny p).1).toNat) _ (fun b _ q hq => ⟨round_good hq ht hn fun s hs => hn s (List.mem_of_mem_drop hs), round_ok hq ht⟩) hp1
  have hl := G.run_len (fun (_ : Nat) => G.round (tags.drop (i + 1)) tags) (List.range (1 + (G.draw mny p).1).toNat) (G.draw mny p).2
  rw [List.length_range] at hl
  obtain ⟨b0, b1, _⟩ := G.draw_ok (m := 4) (goal_ok r2) (by decide)
  refine ⟨?_, goal_good r2, ?_, ?_, fun r hr => ?_⟩
  · show _ = some (tags.getD i Str.empty)
    rw [List.getD_eq_getElem?_getD]
    simp [hi]
  · generalize hz : (G.draw 4 (G.goalD (G.run (fun (_ : Nat) => G.round (tags.drop (i + 1)) tags) (List.range (1 + (G.draw mny p).1).toNat) (G.draw mny p).2).2).2).1 = z at b0 b1
    have hb : 1 ≤ 1 + z ∧ 1 + z ≤ 4 := by omega
    rw [← hz] at hb
    exact hb
  · show 1 ≤ (G.run _ _ _).1.length ∧ (G.run _ _ _).1.length ≤ 5
    rw [hl]
    omega
  · obtain ⟨_, _, h⟩ := r1 r hr
    exact h
theorem matesN_get {tags : List Str} {mny : Int} {p : G.Pu} {i : Nat} : ∀ n, i < n → (G.matesN tags mny p n).1[i]? = some (G.mate tags mny i (G.matesN tags mny p i).2).1
  | 0, h => absurd h (Nat.not_lt_zero _)
  | n + 1, h => by
    show ((G.matesN tags mny p n).1 ++ [(G.mate tags mny n (G.matesN tags mny p n).2).1])[i]? = _
    have hl := matesN_len (tags := tags) (mny := mny) (p := p) n
    by_cases hi : i < n
    · rw [List.getElem?_append_left (by omega)]
      exact matesN_get n hi
    · have : i = n := by omega
      subst this
      rw [List.getElem?_append_right (by omega), hl]
      simp
structure MatesGood (tags : List Str) (ms : List G.Mate) : Prop where
  len : ms.length = tags.length
  l14 : 1 ≤ tags.length ∧ tags.length ≤ 4
  names : NamesOk tags
  nd : tags.Nodup
  each : ∀ (i : Nat) (x : G.Mate), ms[i]? = some x → MateGood tags i x
theorem mates_good {most mny : Int} {p : G.Pu} (hp : p.ok) (h1 : 1 ≤ most) (h4 : most ≤ 4) (m1 : 1 ≤ mny) (m5 : mny ≤ 5) : ∃ tags, MatesGood tags (G.mates most mny p).1 := by
  obtain ⟨c0, c1, hp1⟩ := G.draw_ok (m := most) hp (by omega)
  have hl := tags_len (G.draw most p).2 (1 + (G.draw most p).1).toNat
  have hn := tags_names hp1 (1 + (G.draw most p).1).toNat (by omega)
  have hd := tags_nd (p := (G.draw most p).2) (1 + (G.draw most p).1).toNat (by omega)
  have hq := tags_ok hp1 (1 + (G.draw most p).1).toNat
  refine ⟨(G.tags (G.draw most p).2 (1 + (G.draw most p).1).toNat).1, ?_⟩
  unfold G.mates
  dsimp only
  generalize (G.tags (G.draw most p).2 (1 + (G.draw most p).1).toNat).1 = tg at *
  generalize (G.tags (G.draw most p).2 (1 + (G.draw most p).1).toNat).2 = q at *
  have ht : tg ≠ [] := fun z => by rw [z] at hl; simp at hl; omega
  refine ⟨matesN_len _, by omega, hn, hd, fun i x hx => ?_⟩
  have hi : i < tg.length := by
    have := (List.getElem?_eq_some_iff.mp hx).1
    rwa [matesN_len] at this
  rw [matesN_get tg.length hi] at hx
  rw [← Option.some.inj hx]
  exact mate_good (matesN_ok hq ht (by omega) i) hi hn m1 m5
theorem mate_shape {tags : List Str} {i : Nat} {x : G.Mate} (h : MateGood tags i x) (hn : NamesOk tags) : G.MateOk x := by
  have h1 := hn _ (List.mem_iff_getElem?.mpr ⟨i, h.tag⟩)
  have h2 := h.many
  have h3 := h.base
  refine ⟨(M.name_signs h1).2.1, h.goal.2.1, h.goal.2.2, by omega, by omega, fun r hr => ?_⟩
  have g := h.rounds r hr
  exact ⟨by have := g.len; omega, fun y hy => part_ok (g.good y hy)⟩
theorem names_eq {tags : List Str} {ms : List G.Mate} (h : MatesGood tags ms) : (ms.map G.told).map M.nameOf = tags := by
  rw [List.map_map]
  refine List.ext_getElem? fun i => ?_
  rw [List.getElem?_map]
  cases q : ms[i]? with
  | none =>
    have : ms.length ≤ i := List.getElem?_eq_none_iff.mp q
    rw [h.len] at this
    simp [this]
  | some x =>
    rw [(h.each i x q).tag]
    rfl
theorem mates_ok {tags : List Str} {ms : List G.Mate} (h : MatesGood tags ms) : ms.length ≤ 9 ∧ ∀ x ∈ ms, G.MateOk x := by
  have h1 := h.len
  have h2 := h.l14
  refine ⟨by omega, fun x hx => ?_⟩
  obtain ⟨i, hi⟩ := List.mem_iff_getElem?.mp hx
  exact mate_shape (h.each i x hi) h.names
theorem told_good {tags : List Str} {ms : List G.Mate} (h : MatesGood tags ms) : M.Good (ms.map G.told) := by
  have h1 := h.len
  have h2 := h.l14
  have h3 := mates_ok h
  refine ⟨by rw [List.length_map]; omega, by rw [List.length_map]; omega, fun p hp => ?_, by rw [names_eq h]; exact h.nd, fun i p hp t ht => ?_⟩
  · obtain ⟨x, hx, rfl⟩ := List.mem_map.mp hp
    obtain ⟨i, hi⟩ := List.mem_iff_getElem?.mp hx
    have g := h.each i x hi
    have ok := h3.2 x hx
    refine ⟨?_, fun n g' b r e => ?_⟩
    · show (M.baseOk (.int x.base) && (M.isName (.str x.tag) && (M.isGoal (.str (G.aim x.goal)) && M.areRounds (.tuple (x.rounds.map fun r => .str (G.line r)))))) = true
      have a1 : M.baseOk (.int x.base) = true := by
        show (decide (1 ≤ x.base) && decide (x.base ≤ 4)) = true
        rw [Bool.and_eq_true, decide_eq_true_eq, decide_eq_true_eq]
        exact g.base
      have a2 : M.isName (.str x.tag) = true := h.names _ (List.mem_iff_getElem?.mpr ⟨i, g.tag⟩)
      have a3 : M.areRounds (.tuple (x.rounds.map fun r => .str (G.line r))) = true := by
        show ((decide (1 ≤ ((x.rounds.map fun r => PyData.str (G.line r)).length : Int)) && decide (((x.rounds.map fun r => PyData.str (G.line r)).length : Int) ≤ 5)) && (x.rounds.map fun r => PyData.str (G.line r)).all fun y => !isNone (M.readRound y)) = true
        have := g.many
        rw [Bool.and_eq_true, Bool.and_eq_true, decide_eq_true_eq, decide_eq_true_eq, List.length_map, List.all_map, List.all_eq_true]
        refine ⟨by omega, fun r hr => ?_⟩
        show (!isNone (M.readRound (.str (G.line r)))) = true
        rw [round_read (g.rounds r hr)]
        rfl
      rw [a1, a2, g.goal.1, a3]
      rfl
    · have e' : PyData.tuple [.str x.tag, .str (G.aim x.goal), .int x.base, .tuple (x.rounds.map fun r => .str (G.line r))] = .tuple [n, g', b, r] := e
      simp only [PyData.tuple.injEq, List.cons.injEq] at e'
      obtain ⟨rfl, rfl, rfl, rfl, _⟩ := e'
      refine ⟨fun s hs => ?_, fun ds hds y hy s hs => ?_⟩
      · cases hs
        have := ok.t
        omega
      · cases hds
        obtain ⟨r, hr, rfl⟩ := List.mem_map.mp hy
        cases hs
        have := line_len (ok.r r hr).1 (ok.r r hr).2
        omega
  · rw [names_eq h]
    rw [List.getElem?_map] at hp
    cases q : ms[i]? with
    | none => rw [q] at hp; cases hp
    | some x =>
      rw [q] at hp
      cases hp
      have g := h.each i x q
      have ht' : t ∈ x.rounds.map fun r => PyData.str (G.line r) := ht
      obtain ⟨r, hr, rfl⟩ := List.mem_map.mp ht'
      exact round_stands (g.rounds r hr)
end N
namespace N
open PySem J L2
theorem lo_line {lower tags : List Str} {r : List G.Part} (h : RoundGood lower tags r) : Lo (G.line r) := by
  refine lo_join (by unfold Lo; decide +kernel) fun y hy => ?_
  obtain ⟨x, hx, rfl⟩ := List.mem_map.mp hy
  rw [clause_words]
  exact lo_join (by unfold Lo; decide +kernel) (lo_words (h.good x hx))
theorem lo_goal {g : Str} (h : M.isGoal (.str g) = true) : Lo g := by
  have h2 : inD (.str g) ([.str "all", .str "before"] ++ M.lasts) = true := h
  have h3 : g = "all" ∨ g = "before" ∨ g = "last 1" ∨ g = "last 2" ∨ g = "last 3" ∨ g = "last 4" := by
    have e : ([PyData.str "all", .str "before"] ++ M.lasts) = (["all", "before", "last 1", "last 2", "last 3", "last 4"] : List Str).map .str := rfl
    rw [e, inD_strs] at h2
    simpa using h2
  rcases h3 with rfl | rfl | rfl | rfl | rfl | rfl <;> unfold Lo <;> decide +kernel
theorem sm_told {tags : List Str} {i : Nat} {x : G.Mate} (h : MateGood tags i x) (hn : NamesOk tags) : Sm 2 200000 (G.told x) := by
  have ok := mate_shape h hn
  have h1 := hn _ (List.mem_iff_getElem?.mpr ⟨i, h.tag⟩)
  have a1 : Sm 1 40000 (.str x.tag) := (Sm.str (lo_name h1) ok.t).mono (by decide) (by decide)
  have a2 : Sm 1 40000 (.str (G.aim x.goal)) := (Sm.str (lo_goal h.goal.1) (aim_len ok)).mono (by decide) (by decide)
  have a3 : Sm 1 40000 (.int x.base) := (Sm.int ok.b.1 ok.b.2).mono (by decide) (by decide)
  have a4 : Sm 1 40000 (.tuple (x.rounds.map fun r => .str (G.line r))) := (Sm.tuple (a := 0) (b := 6002) (n := 5) (fun y hy => by
    obtain ⟨r, hr, rfl⟩ := List.mem_map.mp hy
    exact Sm.str (lo_line (h.rounds r hr)) (line_len (ok.r r hr).1 (ok.r r hr).2)) (by rw [List.length_map]; exact h.many.2)).mono (by decide) (by decide)
  refine (Sm.tuple (n := 4) (fun y hy => ?_) (Nat.le_of_ble_eq_true rfl)).mono (b := 3 + 4 * (40000 + 2)) (a := 2) (by decide) (by decide)
  simp only [List.mem_cons, List.not_mem_nil, or_false] at hy
  rcases hy with rfl | rfl | rfl | rfl <;> assumption
theorem sm_tolds {tags : List Str} {ms : List G.Mate} (h : MatesGood tags ms) : ∀ d ∈ ms.map G.told, Sm 2 200000 d := fun d hd => by
  obtain ⟨x, hx, rfl⟩ := List.mem_map.mp hd
  obtain ⟨i, hi⟩ := List.mem_iff_getElem?.mp hx
  exact sm_told (h.each i x hi) h.names
theorem sm_plans {tags : List Str} {ms : List G.Mate} (h : MatesGood tags ms) : Sm 3 800011 (.tuple (ms.map G.told)) := (Sm.tuple (n := 4) (sm_tolds h) (by rw [List.length_map, h.len]; exact h.l14.2)).mono (by decide) (by decide)
end N
namespace J
open PySem PySem.Spec
open PyProof.Rows L2
theorem mates_ok2 {most mny : Int} {p : G.Pu} (hp : p.ok) (h1 : 1 ≤ most) (h4 : most ≤ 4) (m1 : 1 ≤ mny) : (G.mates most mny p).2.ok := by
  obtain ⟨c0, c1, hp1⟩ := G.draw_ok (m := most) hp (by omega)
  have hl := tags_len (G.draw most p).2 (1 + (G.draw most p).1).toNat
  have hq := tags_ok hp1 (1 + (G.draw most p).1).toNat
  unfold G.mates
  dsimp only
  refine matesN_ok hq (fun z => ?_) (by omega) _
  rw [z] at hl
  simp at hl
  omega
end J
namespace PySem
namespace OG
open PySem.Calls PyProof.Rows Builtin Builtin.ObjectAttr
noncomputable def lineOf (B : String) : List Value := .type B :: [.type "Exception", .type "BaseException", .type "object"]
noncomputable def ownLine (B : String) : List Value → Bool
  | .ref _ :: more => ownLine B more
  | line => line == lineOf B
theorem ownLine_split {B : String} : ∀ l : List Value, ownLine B l = true → (∃ a more, l = .ref a :: more ∧ ownLine B more = true) ∨ l = lineOf B := by
  intro l e
  match l, e with
  | .ref a :: more, e => exact .inl ⟨a, more, rfl, e⟩
  | [], e => exact .inr (beq_iff_eq.mp e)
  | .none :: _, e | .ellipsis :: _, e | .notImplemented :: _, e | .bool _ :: _, e | .int _ _ :: _, e | .float _ _ :: _, e | .str _ _ :: _, e | .bytes _ _ :: _, e | .type _ :: _, e | .builtin _ :: _, e => exact .inr (beq_iff_eq.mp e)
structure Under (line : List Value) (make : String) : Prop where
  base : ∃ (B : String) (init : String) (tail : List Value), ExcBaseFacts B make init tail ∧ ∀ Y : String, line.contains (.type Y) = tail.contains (.type Y)
  free : ∀ self : Value, refuseLoop self "__setattr__" line = pure ()
  some_ : line.isEmpty = false
theorem under_line {B init make : String} (F0 : ExcBaseFacts B make init (lineOf B)) (p : ∀ self : Value, refuseLoop self "__setattr__" (lineOf B) = pure ()) : ∀ line : List Value, ownLine B line = true → Under line make ∧ line.contains (.type "object") = true := by
  intro line
  induction line with
  | nil => intro e; cases (beq_iff_eq.mp e : [] = lineOf B)
  | cons a more ih =>
    intro e
    rcases ownLine_split (a :: more) e with ⟨a', more', q, h⟩ | q
    · obtain ⟨rfl, rfl⟩ := List.cons.inj q
      obtain ⟨⟨⟨B', i', t', G, hY⟩, hp, _⟩, hobj⟩ := ih h
      refine ⟨⟨⟨B', i', t', G, fun Y => ?_⟩, fun self => ?_, rfl⟩, ?_⟩
      · rw [List.contains_cons, hY Y]
        rfl
      · rw [refuseLoop_ref]
        exact hp self
      · rw [List.contains_cons, hobj, Bool.or_true]
    · rw [q]
      exact ⟨⟨⟨B, init, lineOf B, F0, fun Y => rfl⟩, p, rfl⟩, by
        unfold lineOf
        simp⟩
theorem under_of {B make : String} {line : List Value} (h : (B = "ValueError" ∧ make = "ValueError.__new__") ∨ (B = "LookupError" ∧ make = "LookupError.__new__") ∨ (B = "ArithmeticError" ∧ make = "ArithmeticError.__new__")) (e : ownLine B line = true) : Under line make ∧ line.contains (.type "object") = true := by
  rcases h with ⟨rfl, rfl⟩ | ⟨rfl, rfl⟩ | ⟨rfl, rfl⟩
  · exact under_line F.excBase_ValueError (fun self => by kernel_rfl) line e
  · exact under_line F.excBase_LookupError (fun self => by kernel_rfl) line e
  · exact under_line F.excBase_ArithmeticError (fun self => by kernel_rfl) line e
section
variable {pr : Program} {wo : World} {Ar : Around} {Rq : Result → Shared → Prop} {u0 : Heap} {gs : Array GenState} {dr : Drawn} {tm : Nat} {oz : OsState}
theorem put_first {K : W.Frag} {y : Str} {tk : Tok} {val : Value} {e C : Addr} {parts : Array Value} {cd : ClassData} {make : String}
    (X : K.In u0) (at_ : u0.get? e = some { cls := .ref C, data := .fields parts }) (cls : W.clsIn K C = some cd) (U : Under cd.mro make) (ob : cd.mro.contains (.type "object") = true) (dic : cd.hasDict = true) (no : W.findIn K (.ref C) y = some none)
    (goal : ∀ u1 tk1 dx, (∀ b o, b ≠ e → u0.get? b = some o → u1.get? b = some o) → u0.objs.size ≤ dx → dx ≠ e → u1.get? e = some { cls := .ref C, dict := some dx, data := .fields parts } →
      u1.Ns1 dx (fun z => if z = y then some val else none) → Rq (.ok (.ret .none)) ⟨u1, gs, dr, tk1, oz⟩) :
    codeAny (model pr wo) Ar (.call (.builtin "object.__setattr__") ⟨[.ref e, .str y tk, val], []⟩) Rq ⟨u0, gs, dr, tm, oz⟩ := by
  have In0 : W.InstAt u0 e { cls := .ref C, data := .fields parts } C none := ⟨at_, rfl, rfl, trivial⟩
  have St := F.store_object
  have far : e ≠ u0.objs.size := Nat.ne_of_lt (Heap.lt_size at_)
  have isO : W.Looks (model pr wo) u0 (isInstance (.ref e) (.type "object")) true := In0.type.andThen (W.looks_mroIn X (by
    unfold W.mroIn
    rw [cls, Option.bind_some, if_neg (by rw [U.some_]; decide), ob]))
  refine codeAny_call_builtin St.slot.plain St.entry ?_
  refine @W.check_slot (model pr wo) _ _ ⟨u0, gs, dr, tm, oz⟩ "object.__setattr__" "object" "__setattr__" (.ref e) [.str y tk, val] [] _ St.kind St.split isO (St.args (.ref e) (.str y tk) val) ?_
  have order : W.Looks (model pr wo) u0 (mroOf (.ref C)) cd.mro := (W.looks_clsIn X cls).andThen .now
  have noTaker : W.Looks (model pr wo) u0 (storeTaker? none) none := .now
  have theCls : W.Looks (model pr wo) u0 (classData C) cd := W.looks_clsIn X cls
  rw [W.osa_eq, refuse_eq]
  refine wpAny_bind (wpAny_bind (In0.type.at (wpAny_bind (order.at ?_))))
  rw [U.free]
  refine wpAny_pure (wpAny_bind (In0.type.at (wpAny_bind ((W.looks_findIn X no).at (wpAny_bind (noTaker.at ?_))))))
  show wpAny _ _ (storeInOwnDict (.ref e) (.ref C) (.str y tk) y val false) _ _ _
  obtain ⟨_, _, _, _, _, hd, _, _, _, _, _⟩ := cd
  dsimp only at dic
  subst dic
  unfold storeInOwnDict ownDictForStores
  repeat (first
    | with_reducible refine HandSPX.store_in_new ?_ ?_
    | with_reducible refine wpAny_loadPart_at at_ ?_
    | with_reducible refine theCls.at ?_
    | wp_step)
  · exact ⟨_, #[], _, (Heap.get?_update_ne _ _ _ _ far.symm).trans (Heap.get?_push_at rfl rfl), rfl, (fun z hz => absurd hz (by simp)), fun _ => rfl⟩
  · intro u1 tk1 ns same
    have e1 : (u0.push { cls := .type "dict", data := .dict #[] }).get? e = some { cls := .ref C, data := .fields parts } := Heap.get?_push_of_some _ at_
    refine goal u1 tk1 u0.objs.size (fun b o nb eo => ?_) (Nat.le_refl _) far.symm ?_ ns
    · have nb2 : b ≠ u0.objs.size := Nat.ne_of_lt (Heap.lt_size eo)
      exact (same.2 b nb2).trans ((Heap.get?_update_ne _ _ _ _ nb).trans (Heap.get?_push_of_some _ eo))
    · exact (same.2 e far).trans (Heap.get?_update_self _ e1 rfl)
theorem put_more {K : W.Frag} {y : Str} {tk : Tok} {val : Value} {e C dx : Addr} {parts : Array Value} {cd : ClassData} {make : String} {m0 : Str → Option Value} {known : List Str}
    (X : K.In u0) (at_ : u0.get? e = some { cls := .ref C, dict := some dx, data := .fields parts }) (ns0 : u0.Ns1 dx m0) (wi : Within m0 known) (few : known.length ≤ 1000) (cls : W.clsIn K C = some cd) (U : Under cd.mro make) (ob : cd.mro.contains (.type "object") = true) (dic : cd.hasDict = true) (no : W.findIn K (.ref C) y = some none)
    (goal : ∀ u1 tk1, (∀ b o, b ≠ dx → u0.get? b = some o → u1.get? b = some o) → u1.Ns1 dx (fun z => if z = y then some val else m0 z) → Rq (.ok (.ret .none)) ⟨u1, gs, dr, tk1, oz⟩) :
    codeAny (model pr wo) Ar (.call (.builtin "object.__setattr__") ⟨[.ref e, .str y tk, val], []⟩) Rq ⟨u0, gs, dr, tm, oz⟩ := by
  obtain ⟨dO, _, _, hdO, _, _⟩ := ns0.count wi
  have In0 : W.InstAt u0 e { cls := .ref C, dict := some dx, data := .fields parts } C (some dO) := ⟨at_, rfl, rfl, hdO⟩
  have St := F.store_object
  have isO : W.Looks (model pr wo) u0 (isInstance (.ref e) (.type "object")) true := In0.type.andThen (W.looks_mroIn X (by
    unfold W.mroIn
    rw [cls, Option.bind_some, if_neg (by rw [U.some_]; decide), ob]))
  refine codeAny_call_builtin St.slot.plain St.entry ?_
  refine @W.check_slot (model pr wo) _ _ ⟨u0, gs, dr, tm, oz⟩ "object.__setattr__" "object" "__setattr__" (.ref e) [.str y tk, val] [] _ St.kind St.split isO (St.args (.ref e) (.str y tk) val) ?_
  have order : W.Looks (model pr wo) u0 (mroOf (.ref C)) cd.mro := (W.looks_clsIn X cls).andThen .now
  have noTaker : W.Looks (model pr wo) u0 (storeTaker? none) none := .now
  have theCls : W.Looks (model pr wo) u0 (classData C) cd := W.looks_clsIn X cls
  rw [W.osa_eq, refuse_eq]
  refine wpAny_bind (wpAny_bind (In0.type.at (wpAny_bind (order.at ?_))))
  rw [U.free]
  refine wpAny_pure (wpAny_bind (In0.type.at (wpAny_bind ((W.looks_findIn X no).at (wpAny_bind (noTaker.at ?_))))))
  show wpAny _ _ (storeInOwnDict (.ref e) (.ref C) (.str y tk) y val false) _ _ _
  obtain ⟨_, _, _, _, _, hd, _, _, _, _, _⟩ := cd
  dsimp only at dic
  subst dic
  unfold storeInOwnDict ownDictForStores
  repeat (first
    | with_reducible refine OEX.store_in_old ns0 wi few ?_
    | with_reducible refine wpAny_loadPart_at at_ ?_
    | with_reducible refine theCls.at ?_
    | wp_step)
  intro u1 tk1 ns same
  exact goal u1 tk1 (fun b o nb eo => (same.2 b nb).trans eo) ns
end
end OG
end PySem
namespace J
open PySem PySem.Spec
open PyProof.Rows L2
structure OexG (K : PySem.W.Frag) (C : Addr) : Prop where
  cls : ∃ nm q N bs bm sn sub ab col dd k0 k1 k2 k3 k5 make, K.lookup C = some (excClassObj nm q C N bs bm true sn sub ab col dd k0 k1 k2 k3 k5 make) ∧ OG.Under bm make ∧ bm.contains (.type "object") = true
  sa : PySem.W.findIn K (.ref C) "__setattr__" = some (some (.builtin "object.__setattr__"))
  exC : PySem.W.subIn K (.ref C) (.type "BaseException") = some true
  tyC : PySem.W.typeIn K (.ref C) = some (.type "type")
  kC : PySem.W.keepIn K (.ref C) = true
section
variable {X : Cx} {pins : List (Addr × Obj)} {σ : L2.St} {H : Hp} {s : Shared} {a C dx : Addr} {f : Str} {y : V} {u : Value} {fs : List (Str × V)} {Q : Unit → Shared → Prop} {E : Value → Shared → Prop} {A : Around}
theorem under_cons {K : PySem.W.Frag} {C : Addr} {bm : List Value} {make : String} (U : OG.Under bm make) : OG.Under (.ref C :: bm) make := by
  obtain ⟨⟨B, i, t, G, hY⟩, hp, _⟩ := U
  refine ⟨⟨B, i, t, G, fun Y => ?_⟩, fun self => ?_, rfl⟩
  · rw [List.contains_cons, hY Y]
    rfl
  · rw [refuseLoop_ref]
    exact hp self
theorem ostG_new (T : OexG X.K C) (I : Inv X pins σ H s) (e : H a = some (exo a C none)) (no : PySem.W.findIn X.K (.ref C) f = some none) (ry : RelV y u)
    (goal : ∀ dx s', H dx = none → dx ≠ a → Inv X pins σ (upd (upd H dx (exd dx [(f, y)])) a (exo a C (some dx))) s' → Q () s') : wpAny (model X.prog X.w) A (setAttr (.ref a) f u) Q E s := by
  obtain ⟨nm, q, N, bs, bm, sn, sub, ab, col, dd, k0, k1, k2, k3, k5, make, lk, U, ob⟩ := T.cls
  obtain ⟨t1, eo⟩ := exo_at I.hok e
  obtain ⟨u0, gs, dr, tm, oz⟩ := s
  have cl : PySem.W.clsIn X.K C = some { name := nm, bases := bs, mro := .ref C :: bm, ns := N, qualname := q, hasDict := true, slotNames := sn, subclasses := sub, abstract := ab, collection := col, hasDel := false } := by
    unfold PySem.W.clsIn
    rw [lk]
  have inst : PySem.W.InstAt u0 a { cls := .ref C, dict := none, data := .fields #[.ref t1, .none, .none, .none, .bool false, .none] } C none := ⟨eo, rfl, rfl, trivial⟩
  refine PySem.W.set_plain I.kIn inst T.sa ?_
  refine OG.put_first I.kIn eo cl (under_cons (K := X.K) U) (by rw [List.contains_cons, ob, Bool.or_true]) rfl no fun u1 tk1 dx keep out ne at1 ns => ?_
  have free : H dx = none := I.hok.fresh out
  have other : ∀ {b : Addr} {o : Obj}, u0.get? b = some o → b ≠ dx := fun {b o} eb => Nat.ne_of_lt (Nat.lt_of_lt_of_le (Heap.lt_size eb) out)
  have nota : ∀ {b : Addr}, H b = none → b ≠ a := fun {b} n z => by rw [z, e] at n; cases n
  let H2 : Hp := upd (upd H dx (exd dx [(f, y)])) a (exo a C (some dx))
  have same : ∀ {b : Addr}, b ≠ a → b ≠ dx → H2 b = H b := fun {b} n1 n2 => by
    show upd (upd H dx (exd dx [(f, y)])) a (exo a C (some dx)) b = H b
    rw [upd_ne n1, upd_ne n2]
  have change : Un X.fs [] H H2 u0 u1 := {
    keep := fun b o eb n _ _ => keep b o (nota n) eb
    slot := fun b o eb n _ _ => ⟨o.slots, keep b o (nota n) eb⟩
    free := fun b o eb n _ => (same (nota n) (other eb)).trans n
    there := fun b o eb _ => by
      by_cases hb : b = a
      · subst hb
        exact ⟨_, at1⟩
      · exact ⟨o, keep b o hb eb⟩
    tups := fun b xs eb => (same (at_ne e eb exo_tup) (ne_of_none eb free)).trans eb
    frzs := fun b o v eb => (same (at_ne e eb exo_frz) (ne_of_none eb free)).trans eb
    tbls := fun b ps eb => ⟨#[], by rw [same (at_ne e eb exo_tbl) (ne_of_none eb free), eb]; simp⟩ }
  refine goal dx _ free ne (I.un (t' := tk1) change fun b o eb => ?_)
  by_cases h1 : b = a
  · subst h1
    have eb' : upd (upd H dx (exd dx [(f, y)])) b (exo b C (some dx)) b = some o := eb
    rw [upd_same] at eb'
    cases eb'
    exact exo_ok at1
  · by_cases h2 : b = dx
    · subst h2
      have eb' : upd (upd H b (exd b [(f, y)])) a (exo a C (some b)) b = some o := eb
      rw [upd_ne h1, upd_same] at eb'
      cases eb'
      exact exd_ok ns (relO_put (fs := []) ry fun g => True.intro)
    · have eb2 : H b = some o := (same h1 h2).symm.trans eb
      refine (I.hok b o eb2).stay (fun c v hc z => keep c v ?_ z) (fun c hc => ?_) (fun c xs hc => ?_)
      · rcases hc with hc | hc
        · rw [hc]
          exact h1
        · exact at_ne e hc exo_own
      · exact (same (at_ne e hc exo_own) (ne_of_none hc free)).trans hc
      · exact (same (at_ne e hc exo_tup) (ne_of_none hc free)).trans hc
theorem ostG_more (T : OexG X.K C) (I : Inv X pins σ H s) (e : H a = some (exo a C (some dx))) (ed : H dx = some (exd dx fs)) (few : fs.length ≤ 900) (no : PySem.W.findIn X.K (.ref C) f = some none) (ry : RelV y u)
    (goal : ∀ s', Inv X pins σ (upd H dx (exd dx ((f, y) :: fs))) s' → Q () s') : wpAny (model X.prog X.w) A (setAttr (.ref a) f u) Q E s := by
  obtain ⟨nm, q, N, bs, bm, sn, sub, ab, col, dd, k0, k1, k2, k3, k5, make, lk, U, ob⟩ := T.cls
  obtain ⟨t1, eo⟩ := exo_at I.hok e
  obtain ⟨mA, ns0, rel⟩ := exd_at I.hok ed
  have wi := within_of rel
  obtain ⟨u0, gs, dr, tm, oz⟩ := s
  obtain ⟨dO, _, _, hdO, _, _⟩ := ns0.count wi
  have cl : PySem.W.clsIn X.K C = some { name := nm, bases := bs, mro := .ref C :: bm, ns := N, qualname := q, hasDict := true, slotNames := sn, subclasses := sub, abstract := ab, collection := col, hasDel := false } := by
    unfold PySem.W.clsIn
    rw [lk]
  have inst : PySem.W.InstAt u0 a { cls := .ref C, dict := some dx, data := .fields #[.ref t1, .none, .none, .none, .bool false, .none] } C (some dO) := ⟨eo, rfl, rfl, hdO⟩
  refine PySem.W.set_plain I.kIn inst T.sa ?_
  refine OG.put_more I.kIn eo ns0 wi (by rw [List.length_map]; omega) cl (under_cons (K := X.K) U) (by rw [List.contains_cons, ob, Bool.or_true]) rfl no fun u1 tk1 keep ns => ?_
  have there : ∃ o, u1.get? dx = some o := by
    obtain ⟨o, _, _, e', _⟩ := ns
    exact ⟨o, e'⟩
  have put := relO_put (f := f) ry rel
  exact goal _ (I.write (t' := tk1) (x := dx) (e := dx) (o := exd dx ((f, y) :: fs)) (by rw [ed]; exact True.intro) (.inl rfl) keep there (exd_ok ns put))
end
noncomputable def tOsG (K : PySem.W.Frag) (f : Str) (to te : TE) : TS := fun D σ H => te σ H fun y H1 => to σ H1 fun x H2 => ∃ a C : Addr, x = .ref a ∧ OexG K C ∧ PySem.W.findIn K (.ref C) f = some none ∧
  ((H2 a = some (exo a C none) ∧ ∀ dx, H2 dx = none → dx ≠ a → D.nx σ (upd (upd H2 dx (exd dx [(f, y)])) a (exo a C (some dx)))) ∨
    ∃ (dx : Addr) (fs : List (Str × V)), H2 a = some (exo a C (some dx)) ∧ H2 dx = some (exd dx fs) ∧ fs.length ≤ 900 ∧ D.nx σ (upd H2 dx (exd dx ((f, y) :: fs))))
section
variable {X : Cx} {o e : Expr} {es : List Expr} {to te : TE} {ta : TA} {f : Str} {p p' pos : Pos}
theorem ps_osG (ho : PE X o to) (he : PE X e te) (sw : swapsWith e (some (.Attribute o f p')) pos.line X.env = pure false := by rfl) : PS X (.Assign [.Attribute o f p'] e pos) (tOsG X.K f to te) := by
  refine ⟨fun pins s σ H D I h => ?_⟩
  refine plainObj_wpAny_Assign_Attribute (thn (he.run pins s σ H _ I h) fun vu s1 ⟨y, H1, I1, ry, q1⟩ => ?_) sw
  refine thn (ho.run pins s1 σ H1 _ I1 q1) fun xu s2 ⟨x, H2, I2, rx, a, C, ex, T, no, q⟩ => ?_
  subst ex
  obtain rfl : xu = Value.ref a := rx
  rcases q with ⟨ea, q⟩ | ⟨dx, fs, ea, ed, few, q⟩
  · exact ostG_new T I2 ea no ry fun dx s' free ne J => ⟨σ, _, J, q dx free ne⟩
  · exact ostG_more T I2 ea ed few no ry fun s' J => ⟨σ, _, J, q⟩
theorem pmk_oexG {Y : CXT} {x : Str} {C gI : Addr} {k : Nat} {fd : FuncData} {ps : List Str} {sp : Sp} (O : OexG X.K C) (hi : PySem.W.findIn X.K (.ref C) "__init__" = some (some (.ref gI))) (ht : PySem.W.typeIn X.K (.ref gI) = some (.type "function"))
    (Fn : FnOk X.prog X.w X.K X.mg X.base Y k gI fd ps sp) (room : Room (k + 1) X.A) (bi : Binds X.K fd ps []) (pass : Passes Y X (fun _ _ _ => False)) (glob : Gl X x) (mean : X.mg x = some (.ref C)) (args : PA X (e :: es) ta)
    (ndb : (x == ("__debug__" : Str)) = false := by decide) (st : starEach (e :: es) X.env = (false, eval e X.env) :: starEach es X.env := by rfl) (pl : (backTo pos (starEach es X.env)).any (·.1) = false := by rfl) :
    L2N.PMk X (.Call (.Name x p) (e :: es) [] pos) (tMkO C sp [] ta) := by
  intro pins s0 σ0 H0 Q J hh
  obtain ⟨c1, c2, c3, c4, c5, c6, c7, c8, c9, c10, c11, c12, c13, c14, c15, make, look, ⟨⟨B, iid, tail, G0, hY⟩, _, _⟩, _⟩ := O.cls
  refine wpAny_Call_Name_kw (ld_glob J glob mean ?_ ndb)
  refine PySem.W.callWith_K (h₀ := X.base) J.ok.mod.kin O.kC (thn (args.run pos pins s0 σ0 H0 _ J hh) fun vals t1 ⟨ws, G, J1, rel, _, want⟩ => ⟨J1.kIn, ?_⟩) st pl
  show wpAny _ _ (call (.ref C) vals) _ _ _
  obtain ⟨h1, gn, dw, tok, sys⟩ := t1
  have le1 : h1.objs.size ≤ h1.objs.size + 1 := Nat.le_succ _
  have want1 := want (h1.objs.size + 1) (J1.hok.fresh le1)
  rw [List.append_nil] at want1
  have keep1 : ∀ b u, h1.get? b = some u → ((h1.push (PySem.W.kdv_tup vals)).push (PySem.HandSPX.excO C h1.objs.size)).get? b = some u := fun b u z => Heap.get?_push_of_some _ (Heap.get?_push_of_some _ z)
  have made : ((h1.push (PySem.W.kdv_tup vals)).push (PySem.HandSPX.excO C h1.objs.size)).get? (h1.objs.size + 1) = some (PySem.HandSPX.excO C h1.objs.size) := by heap_get
  have J2 : Inv X pins σ0 (upd G (h1.objs.size + 1) (exo (h1.objs.size + 1) C none)) ⟨(h1.push (PySem.W.kdv_tup vals)).push (PySem.HandSPX.excO C h1.objs.size), gn, dw, tok, sys⟩ :=
    J1.laid (o := exo (h1.objs.size + 1) C none) (a := h1.objs.size + 1) (t' := tok) (h' := (h1.push (PySem.W.kdv_tup vals)).push (PySem.HandSPX.excO C h1.objs.size)) keep1 le1 (exo_ok made)
  have rel2 : Vals (V.ref (h1.objs.size + 1) :: ws) (Value.ref (h1.objs.size + 1) :: vals) := .cons rfl rel
  have many : (Value.ref (h1.objs.size + 1) :: vals ++ []).length = ps.length := by
    have z := rel2.length
    rw [Fn.len _ _ _ _ want1] at z
    rw [List.append_nil]
    exact z.symm
  have small : vals.length ≤ sizeLine := by
    rw [← Paired.length rel, sizeLine_eq]
    omega
  have bind2 := bi _ (Value.ref (h1.objs.size + 1) :: vals) J2.kIn many
  rw [List.append_nil] at bind2
  refine wpAny_call (PySem.HandSPX.call_own G0 hY (J1.kIn _ _ look) (PySem.W.looks_findIn J1.kIn hi) (fun self => PySem.W.bind_fn J1.kIn self ht) small
    (codeAny_mono (Fn.run _ X.stack _ _ ⟨Value.ref (h1.objs.size + 1) :: vals, []⟩ (Value.ref (h1.objs.size + 1) :: vals) _ _ (fun _ _ _ => False) (room.make C vals []) (J2.env0.make C vals []) bind2 rel2 want1) fun r t3 got => ?_))
  match r, got with
  | .error er, got => exact pass pins σ0 _ _ er t3 J2 got
  | .ok (.ret u), got =>
    obtain ⟨v, G2, os2, ag2, un2, ok2, rv, ev, dd, fs, ea, ed, free, q2⟩ := got
    subst ev
    obtain ⟨h2, gn2, dw2, tok2, sys2⟩ := t3
    obtain ⟨t0, G3, J3, k3, ne3, oe3, na3⟩ := mk_end0 (d2 := dw2) (t2 := tok2) J1 le1 keep1 un2 ok2 os2 ag2 ea ed free
    refine ⟨rv, h1.objs.size + 1, _, _, ⟨G3, gn2, dw2, tok2, sys2⟩, _, .ref C, some dd, rfl, J3, k3, ne3, oe3, ⟨rfl, rfl, fun vs z => ?_⟩, rfl, rfl, na3, rfl, ag2, raises_own O.exC O.tyC, q2⟩
    cases z
    rfl
end
theorem okXG {P : Program} {w : World} {K : PySem.W.Frag} {mg : Str → Option Value} {base : Heap} {C fI : Addr} {fd : FuncData} {qual f : Str} {st : Stmt} {p1 p2 p3 pos : Pos} (F : Fun K "__init__" qual st fI fd) (Sc : FnScope ["self", f] ["self", f] (defScope st)) (oe : OexG K C) (no : PySem.W.findIn K (.ref C) f = some none) (hb : defBody st = [.Assign [.Attribute (.Name "self" p1) f p2] (.Name f p3) pos])
    (hv : Vis (defScope st) f) (hv0 : Vis (defScope st) "self") (hd : (f == ("__debug__" : Str)) = false := by decide) (hcd : (f == ("__classdict__" : Str)) = false := by decide) : FnOk P w K mg base CX0 1 fI fd ["self", f] (spXI C f) := by
  refine F.ok Sc (fun vs H Q E h => ?_) (fun cdv A outer s H vs Q E hr h => ?_)
  · obtain ⟨a, v, rfl, _⟩ := h
    rfl
  · obtain ⟨a, v, rfl, ha, q⟩ := h
    rw [hb]
    refine ⟨_, pss_one (ps_osG (pe_var (i := 0) rfl hv0) (pe_var (i := 1) rfl hv hd hcd)), ?_⟩
    exact ⟨v, rfl, .ref a, rfl, a, C, rfl, oe, no, .inl ⟨ha, q⟩⟩
structure ExcG (P : Program) (w : World) (K : PySem.W.Frag) (mg : Str → Option Value) (base : Heap) (n : Str) (C : Addr) (f : Str) : Prop where
  oex : OexG K C
  at_ : mg n = some (.ref C)
  noF : PySem.W.findIn K (.ref C) f = some none
  ini : ∃ fI fd, PySem.W.findIn K (.ref C) "__init__" = some (some (.ref fI)) ∧ PySem.W.typeIn K (.ref fI) = some (.type "function") ∧ FnOk P w K mg base CX0 1 fI fd ["self", f] (spXI C f) ∧ Binds K fd ["self", f] []
section
variable {X : Cx} {W : WX} {ρ : REnv} {μ μ1 : Sto} {e : Expr} {pos p pos' : Pos} {d : PyData} {n f : Str} {C : Addr} {nn k : Nat} {P : Out → Prop} {rest : List Stmt}
theorem ST.raiseG (M : ExcG X.prog X.w X.K X.mg X.base n C f) (tk : L2N.Takes X W) (hr : Room k X.A) (ha : EV X e ρ μ (.dat d) μ1) (hP : P (.rse ρ μ1 C [(f, d)])) (hk : 2 ≤ k := by decide) (hc : X.calm = true := by rfl) (hg : Gl X n := by rfl)
    (hdb : (n == ("__debug__" : Str)) = false := by decide) (he : starEach [e] X.env = (false, eval e X.env) :: starEach [] X.env := by rfl) (hpl : (backTo pos (starEach [] X.env)).any (·.1) = false := by rfl) : ST X W nn (.Raise (some (.Call (.Name n p) [e] [] pos)) none pos' :: rest) ρ μ P := by
  intro w σ H D hn m s q
  obtain ⟨fI, fd, iC, tI, F, bi⟩ := M.ini
  refine ⟨_, pss_cons (L2N.ps_raise hc tk (pmk_oexG (Y := CX0) M.oex iC tI F (hr.mono hk) bi pass0 hg M.at_ (pa_cons (p_ex (e := e)) pa_nil he) hdb he hpl)) pss_never, ?_⟩
  refine ha w σ H m s _ fun v H1 m1 f1 hv => ?_
  refine ⟨by simp, fun a na => ⟨a, v, rfl, upd_same, fun dx hd hne => ⟨rfl, dx, [(f, v)], upd_same, ?_, ?_, ?_⟩⟩⟩
  · rw [upd_ne hne, upd_same]
  · rwa [upd_ne hne] at hd
  · have hd' : H1 dx = none := by rwa [upd_ne hne] at hd
    obtain ⟨m2, f2, x2⟩ := exc_end (f := f) (o1 := exo a C none) (o2 := exd dx [(f, v)]) (o3 := exo a C (some dx)) m1 hv na hd' hne
    exact Fin.rse0 (q _ hP) m2 ((s.fr f1).fr f2) (f1.trans f2) x2
end
end J
namespace M
open PySem J L2
noncomputable def findN (names : List Str) : PyData → Option Nat
  | .str n => names.findIdx? (· == n)
  | _ => none
theorem findN_some {names : List Str} {d : PyData} {j : Nat} (h : findN names d = some j) : ∃ n, d = .str n ∧ names[j]? = some n := by
  cases d with
  | str n =>
    have h' : names.findIdx? (· == n) = some j := h
    obtain ⟨hj, e, _⟩ := List.findIdx?_eq_some_iff_getElem.mp h'
    refine ⟨n, rfl, ?_⟩
    rw [List.getElem?_eq_getElem hj]
    exact congrArg some (beq_iff_eq.mp e)
  | _ => cases h
theorem findN_none {names : List Str} {n : Str} (h : findN names (.str n) = none) : n ∉ names := fun z => by
  have h' : names.findIdx? (· == n) = none := h
  have := List.findIdx?_eq_none_iff.mp h' n z
  simp at this
end M
namespace J
open PySem PySem.Spec
open PyProof.Rows L2
section
variable {w : World} {P : Program} {K : PySem.W.Frag} {base : Heap} {mg : Str → Option Value} {C : Addr}
noncomputable def findRes (Cu : Addr) (ps : List PyData) (d : PyData) (μ : Sto) : Res := match M.findN (ps.map M.nameOf) d with
  | some j => .ok (Ii (j : Int)) μ
  | none => .rse Cu [(("given" : Str), d)] μ
end
end J
namespace J
open PySem PySem.Spec
open PyProof.Rows L2
structure NoT (K : PySem.W.Frag) (C : Addr) (T : String) : Prop where
  kit : PySem.W.kitOne K (.type T) (.ref C) = some false
  sub : PySem.W.subIn K (.ref C) (.type T) = some false
  rev : PySem.W.subIn K (.type T) (.ref C) = some false
structure NoTs (K : PySem.W.Frag) (C : Addr) : Prop where
  non : NoT K C "NoneType"
  bl : NoT K C "bool"
  int : NoT K C "int"
  str : NoT K C "str"
  lst : NoT K C "list"
  tup : NoT K C "tuple"
  dic : NoT K C "dict"
theorem NoTs.of {K : PySem.W.Frag} {C : Addr} (N : NoTs K C) : ∀ (d : PyData), NoT K C (tyD d)
  | .none => N.non
  | .bool _ => N.bl
  | .int _ => N.int
  | .str _ => N.str
  | .list _ => N.lst
  | .tuple _ => N.tup
  | .dict _ => N.dic
inductive TyS (H : Hp) : V → String → Prop where
  | non : TyS H .non "NoneType"
  | bl (x : Bool) : TyS H (.bl x) "bool"
  | int (i : Int) : TyS H (.int i) "int"
  | str (x : Str) : TyS H (.str x) "str"
  | lst {a : Addr} {xs : List V} (e : H a = some (.lst xs)) : TyS H (.ref a) "list"
  | tup {a : Addr} {xs : List V} (e : H a = some (.tup xs)) : TyS H (.ref a) "tuple"
  | dK {a : Addr} {kvs : List (Key × V)} (e : H a = some (.dK kvs)) : TyS H (.ref a) "dict"
theorem TyS.of {K : PySem.W.Frag} {H : Hp} {v : V} {T : String} (h : TyS H v T) : TyOf K H v (.type T) := by
  cases h with
  | non => exact .non
  | bl b => exact .bl b
  | int i => exact .int i
  | str x => exact .str x
  | lst e => exact .lst e
  | tup e => exact .tup e
  | dK e => exact .dK e
theorem dq_to {H H' : Hp} {v : V} {d : PyData} (h : Dq H v d) (e : Same H H') (ho : isObj d = false) : TyS H' v (tyD d) := by
  cases h with
  | ins hx hn hd => cases ho
  | dic ha hn hd => exact .dK (e _ _ ha)
  | non => exact .non
  | bl b => exact .bl b
  | int i => exact .int i
  | str x => exact .str x
  | lst ha hd => exact .lst (e _ _ ha)
  | tup ha hd => exact .tup (e _ _ ha)
section
variable {X : Cx} {ρ : REnv} {μ μ1 μ2 μ3 : Sto} {a b o : Expr} {pos p p2 : Pos} {C : Addr} {fs gs : List (Str × PyData)} {k : Nat} {cn : Con} {n : Str} {d : PyData} {pins : List (Addr × Obj)} {σ : L2.St} {H : Hp} {s : Shared}
theorem call_isN (N : NoTs X.K C) (ho : isObj d = false) : CallR X (.builtin "isinstance") (fun xs H Q => ∃ x, xs = [x, .ref C] ∧ TyS H x (tyD d) ∧ Q (.bl false) H) := by
  intro pins s σ H xs us Q I r h
  obtain ⟨x, rfl, ty, q⟩ := h
  obtain ⟨u, w', rfl, ru, rw'⟩ := vals2 r
  cases rw'
  exact isinst_ok I ru ty.of (N.of d).kit fun tk => ⟨.bl false, H, I.tok _, rfl, q⟩
theorem EV.isN (N : NoTs X.K C) (hob : isObj d = false) (T : X.mg "isinstance" = none) (hm : X.mg n = some (.ref C)) (ho : EV X o ρ μ (.dat d) μ1) (hg : Gl X "isinstance" := by rfl) (hgT : Gl X n := by rfl) (hdb : (n == ("__debug__" : Str)) = false := by decide)
    (he : starEach [o, .Name n p2] X.env = (false, eval o X.env) :: starEach [.Name n p2] X.env := by rfl) (he2 : starEach [.Name n p2] X.env = (false, eval (.Name n p2) X.env) :: starEach [] X.env := by rfl) (hpl : (backTo pos (starEach [.Name n p2] X.env)).any (·.1) = false := by rfl) : EV X (.Call (.Name "isinstance" p) [o, .Name n p2] [] pos) ρ μ (Bb false) μ1 := by
  intro w σ H m s Q q
  refine ⟨_, pe_callB (call_isN N hob) hg T (by decide +kernel) (pa_cons (p_ex (e := o)) (pa_cons (pe_glob (v := .ref C) hgT hm rfl hdb) pa_nil he2) he) (by decide) (by decide) he hpl, ?_⟩
  refine ho w σ H m s _ fun v H1 m1 f1 h1 => ?_
  exact ⟨v, rfl, dq_to h1 dl_same hob, q _ H1 m1 f1 (Dq.bl false)⟩
end
end J
namespace J
open PySem PySem.Spec
open PyProof.Rows L2
section
variable {X : Cx} {W : WX} {ρ : REnv} {μ μ1 : Sto} {a e : Expr} {pos p p2 kpos : Pos} {n f kw : Str} {C : Addr} {fs : List (Str × PyData)} {k : Nat} {ps : List Str} {d : PyData} {Chk : PyData → Option (Addr × List (Str × PyData)) → Prop} {o : Option (Addr × List (Str × PyData))}
theorem EV.isO {T : String} {b : Bool} (c : C8.InsC X.K C) (hk : PySem.W.kitOne X.K (.ref C) (.type T) = some b) (hm : X.mg "isinstance" = none) (hmT : X.mg n = none) (hvT : bootBuiltins n = some (.type T)) (ho : EV X a ρ μ (.obj C fs) μ1) (hg : Gl X "isinstance" := by rfl) (hgT : Gl X n := by rfl) (hn : n ≠ "__name__" := by decide)
    (hdb : (n == ("__debug__" : Str)) = false := by decide)
    (he : starEach [a, .Name n p2] X.env = (false, eval a X.env) :: starEach [.Name n p2] X.env := by rfl) (he2 : starEach [.Name n p2] X.env = (false, eval (.Name n p2) X.env) :: starEach [] X.env := by rfl) (hpl : (backTo pos (starEach [.Name n p2] X.env)).any (·.1) = false := by rfl) :
    EV X (.Call (.Name "isinstance" p) [a, .Name n p2] [] pos) ρ μ (Bb b) μ1 := by
  intro w σ H m s Q q
  refine ⟨_, pe_callB call_isi hg hm (by decide +kernel) (pa_cons (p_ex (e := a)) (pa_cons (pe_bltn (v := .ty T) hgT hmT hvT rfl hn hdb) pa_nil he2) he) (by decide) (by decide) he hpl, ?_⟩
  refine ho w σ H m s _ fun v H1 m1 f1 h1 => ?_
  obtain ⟨x, dx, ws, rfl, hx, _, _⟩ := h1
  exact ⟨_, .ty T, .ref C, .type T, b, rfl, .ty T, .base (.ins (dl_some hx).2 c.cl c.ha c.hn c.htk c.hm), hk, q _ _ m1 f1 (Dq.bl b)⟩
end
end J
namespace J
open PySem PySem.Spec
open PyProof.Rows L2
noncomputable def ixRes (d : PyData) : Res → Res
  | .ok _ μ => .ok (.dat d) μ
  | .rse C fs μ => .rse C fs μ
section
variable {X : Cx} {W : WX} {ρ : REnv} {μ μ1 μ2 : Sto} {a b e o : Expr} {pos apos kpos : Pos} {ds : List PyData} {d : PyData} {oo : Res} {C : Addr} {fs : List (Str × PyData)} {m kw : Str} {k : Nat} {ps : List Str} {cn : ConX} {r : Ent}
theorem EVR.ixT (ha : EV X a ρ μ (Tp ds) μ1) (hb : EVR X W b ρ μ1 oo) (h : ∀ r μ2, oo = .ok r μ2 → ∃ i : Int, r = Ii i ∧ atI ds i = some d) (hs : PlainIx b := by exact fun _ _ => rfl) : EVR X W (.Subscript a b pos) ρ μ (ixRes d oo) := by
  intro w σ H m s Q q
  refine ⟨_, pe_ix ix_tup (p_ex (e := a)) (p_ex (e := b)) hs, ?_⟩
  refine ha w σ H m s _ fun v H1 m1 f1 h1 => ?_
  refine hb w σ H1 m1 (s.fr f1) _ ?_
  cases oo with
  | ok r μ2 =>
    obtain ⟨i, rfl, hi⟩ := h r μ2 rfl
    exact fun u H2 m2 f2 h2 => r2_ixT hi w H2 v u m2 (h1.fr f2) h2 Q fun t H3 m3 f3 h3 => q t H3 m3 ((f1.trans f2).trans f3) h3
  | rse C fs μ2 => exact fun od H2 m2 f2 hx => q od H2 m2 (f1.trans f2) hx
end
end J
namespace J
open PySem PySem.Spec
open PyProof.Rows L2
section
variable {w : World} {P : Program} {K : PySem.W.Frag} {base : Heap} {mg : Str → Option Value} {C : Addr}
noncomputable def cnFindO (C Cu : Addr) : ConX := fun rs μ o => ∃ (ps : List PyData) (d : PyData), rs = [bookE C ps, .dat d] ∧ (M.Good ps ∧ (isObj d = false ∨ ∃ fs, d = obD C fs)) ∧ o = findRes Cu ps d μ
theorem okFindO {Cu : Addr} {f : Addr} {fd : FuncData} (T : Bt mg) (F : Fun K "find_plan" "Book.find_plan" sFindPlan f fd) (B : Kl K C) (I : C8.InsC K C) (hkS : PySem.W.kitOne K (.ref C) (.type "str") = some false) (N1 : Prp P w K mg base C "names" 1 (cnNames C)) (N2 : NmF P w K mg base C) (Eu : ExcG P w K mg base "UnknownPlan" Cu "given") : FnOk P w K mg base (L2N.CX P w) 3 f fd ["self", "name"] (SpX K ["self", "name"] (cnFindO C Cu)) := by
  refine fnx_mk F scFindPlan (by decide) fun cdv A outer s H E hr rs μ o hl hC => ?_
  have tk : L2N.Takes (cxOf (L2N.CX P w) P w K mg base ["self", "name"] "Book.find_plan" (defScope sFindPlan) f cdv A outer s H E) (fun cls d _ H => E cls d H) := L2N.takes_of rfl rfl rfl rfl
  obtain ⟨ps, d, rfl, ⟨G, hob⟩, rfl⟩ := hC
  rcases hob with hob | ⟨fs, rfl⟩
  · unfold findRes
    cases hd : isStrL d with
    | false =>
      have hn : M.findN (ps.map M.nameOf) d = none := by cases d <;> first | rfl | cases hd
      rw [hn]
      refine ST.ifX (k := true) (WV.tv (WV.orT (TV.not (TV.val (isI T (nm 1) (kit_str d) (by decide +kernel) T.str))) (by rw [hd]; rfl))) (fun _ => ?_) (fun z => by cases z)
      refine ST.raiseG Eu tk hr (nm 1) ?_
      show _ = _
      rw [List.take_length]
    | true =>
      obtain ⟨n, rfl⟩ : ∃ s, d = .str s := by cases d <;> first | exact ⟨_, rfl⟩ | cases hd
      cases hf : M.findN (ps.map M.nameOf) (.str n) with
      | none =>
        have hin : inD (.str n) ((ps.map M.nameOf).map .str) = false := by
          rw [inD_strs]
          exact decide_eq_false (M.findN_none hf)
        refine ST.ifX (k := true) (WV.tv (WV.orF (TV.not (TV.val (isI T (nm 1) (kit_str _) (by decide +kernel) T.str))) (WV.or1 (TV.eq (tNiT (nm 1) (EV.prop (nm 0) B.cl N1 hr ⟨ps, rfl, G, rfl, rfl⟩) rfl (strs_flat _)) (by rw [hin]; rfl))))) (fun _ => ?_) (fun z => by cases z)
        refine ST.raiseG Eu tk hr (nm 1) ?_
        show _ = _
        rw [List.take_length]
      | some j =>
        obtain ⟨n', e, hj⟩ := M.findN_some hf
        cases e
        have hin : inD (.str n) ((ps.map M.nameOf).map .str) = true := by
          rw [inD_strs]
          exact decide_eq_true (List.mem_iff_getElem?.mpr ⟨j, hj⟩)
        refine ST.ifX (k := false) (WV.tv (WV.orF (TV.not (TV.val (isI T (nm 1) (kit_str _) (by decide +kernel) T.str))) (WV.or1 (TV.eq (tNiT (nm 1) (EV.prop (nm 0) B.cl N1 hr ⟨ps, rfl, G, rfl, rfl⟩) rfl (strs_flat _)) (by rw [hin]; rfl))))) (fun z => by cases z) (fun _ => ?_)
        refine ST.ret (EV.nidx N2 B hr (nm 0) (nm 1) G hj) ?_
        show _ = _
        rw [List.take_length]
        rfl
  · refine ST.ifX (k := true) (WV.tv (WV.orT (TV.not (TV.val (EV.isO (b := false) I hkS T.isinstance T.str (by decide +kernel) (EV.dob (nm 1))))) rfl)) (fun _ => ?_) (fun z => by cases z)
    refine ST.raiseG Eu tk hr (nm 1) ?_
    show _ = _
    rw [List.take_length]
    rfl
noncomputable def planRes (Cu : Addr) (ps : List PyData) (d : PyData) (μ : Sto) : Res := match M.findN (ps.map M.nameOf) d with
  | some j => .ok (.dat (ps.getD j .none)) μ
  | none => .rse Cu [(("given" : Str), d)] μ
noncomputable def cnPlanO (C Cu : Addr) : ConX := fun rs μ o => ∃ (ps : List PyData) (d : PyData), rs = [bookE C ps, .dat d] ∧ (M.Good ps ∧ (isObj d = false ∨ ∃ fs, d = obD C fs)) ∧ o = planRes Cu ps d μ
theorem okPlanO {Cu : Addr} {f : Addr} {fd : FuncData} (F : Fun K "plan" "Book.plan" sPlan f fd) (B : Kl K C) (N1 : MthX P w K mg base C "find_plan" 3 ["self", "name"] (cnFindO C Cu)) : FnOk P w K mg base (L2N.CX P w) 4 f fd ["self", "name"] (SpX K ["self", "name"] (cnPlanO C Cu)) := by
  refine fnx_mk F scPlan (by decide) fun cdv A outer s H E hr rs μ o hl hC => ?_
  have tk : L2N.Takes (cxOf (L2N.CX P w) P w K mg base ["self", "name"] "Book.plan" (defScope sPlan) f cdv A outer s H E) (fun cls d _ H => E cls d H) := L2N.takes_of rfl rfl rfl rfl
  obtain ⟨ps, d, rfl, ⟨G, hob⟩, rfl⟩ := hC
  have hix : ∀ r μ2, findRes Cu ps d μ = .ok r μ2 → ∃ i : Int, r = Ii i ∧ atI ps i = some (match M.findN (ps.map M.nameOf) d with | some j => ps.getD j .none | none => .none) := fun r μ2 e => by
    unfold findRes at e
    cases hf : M.findN (ps.map M.nameOf) d with
    | none => rw [hf] at e; cases e
    | some j =>
      rw [hf] at e
      cases e
      obtain ⟨n, rfl, hj⟩ := M.findN_some hf
      have hjl := (List.getElem?_eq_some_iff.mp hj).1
      rw [List.length_map] at hjl
      refine ⟨_, rfl, at_nat ?_⟩
      show ps[j]? = some (ps.getD j .none)
      rw [List.getD_eq_getElem?_getD, List.getElem?_eq_getElem hjl]
      rfl
  refine ST.retR (EVR.ixT (EV.fld (nm 0) B.cl B.nK rfl) (EVR.meth (nm 0) B.cl N1 tk hr rfl (AV.cons (nm 1) AV.nil) ⟨ps, d, rfl, ⟨G, hob⟩, rfl⟩) hix) ?_
  unfold findRes planRes
  cases hf : M.findN (ps.map M.nameOf) d with
  | none =>
    show _ = _
    rw [List.take_length]
  | some j =>
    show _ = _
    rw [List.take_length]
    rfl
end
end J
namespace M
open PySem J L2
end M
namespace J
open PySem PySem.Spec
open PyProof.Rows L2
noncomputable def chkRes (Ce : Addr) (μ : Sto) : Option PyData → Res
  | none => .ok Nn μ
  | some i => .rse Ce [("index", i)] μ
end J
namespace J
open PySem PySem.Spec
open PyProof.Rows L2
section
variable {X : Cx} {ρ : REnv} {μ μ1 : Sto} {a : Expr} {pos p p2 : Pos} {n : Str} {k : Nat} {ds : List PyData}
theorem EV.isP {T : String} {b : Bool} (ha : EV X a ρ μ (.ptr k) μ1) (hds : μ1[k]? = some ds) (hk : kitB "list" T = some b) (hm : X.mg "isinstance" = none) (hmT : X.mg n = none) (hvT : bootBuiltins n = some (.type T)) (hg : Gl X "isinstance" := by rfl) (hgT : Gl X n := by rfl) (hn : n ≠ "__name__" := by decide)
    (hdb : (n == ("__debug__" : Str)) = false := by decide)
    (he : starEach [a, .Name n p2] X.env = (false, eval a X.env) :: starEach [.Name n p2] X.env := by rfl) (he2 : starEach [.Name n p2] X.env = (false, eval (.Name n p2) X.env) :: starEach [] X.env := by rfl) (hpl : (backTo pos (starEach [.Name n p2] X.env)).any (·.1) = false := by rfl) :
    EV X (.Call (.Name "isinstance" p) [a, .Name n p2] [] pos) ρ μ (Bb b) μ1 := by
  intro w σ H m s Q q
  refine ⟨_, pe_callB call_isi hg hm (by decide +kernel) (pa_cons (p_ex (e := a)) (pa_cons (pe_bltn (v := .ty T) hgT hmT hvT rfl hn hdb) pa_nil he2) he) (by decide) (by decide) he hpl, ?_⟩
  refine ha w σ H m s _ fun v H1 m1 f1 h1 => ?_
  obtain ⟨c, hc, rfl⟩ := h1
  obtain ⟨vs, hb, hd⟩ := m1.cell k c ds hc hds
  exact ⟨_, .ty T, _, .type T, b, rfl, .ty T, .base (.lst hb), kit_ty hk, q _ _ m1 f1 (Dq.bl b)⟩
end
end J
namespace GR
open PySem J L2 M
noncomputable def pieceOk (s : Str) : Bool := (decide (1 ≤ (s.length : Int)) && decide ((s.length : Int) ≤ 4)) && (s.cps.toList.map fun c => decide (c ∈ M.letters.cps.toList)).all id
noncomputable def pieceB : PyData → Bool
  | .str s => pieceOk s
  | _ => false
noncomputable def oddAt (ds : List PyData) (i : Nat) : Bool := decide (i = 12) || !pieceB (ds.getD i .none)
noncomputable def firstO (f : Nat → Bool) : List Nat → Option PyData
  | [] => none
  | i :: l => if f i = true then some (.int (i : Int)) else firstO f l
theorem firstO_app (f : Nat → Bool) (z : List Nat) : ∀ l : List Nat, (∀ n ∈ l, f n = false) → firstO f (l ++ z) = firstO f z
  | [], _ => rfl
  | p :: l, h => by
    show (if f p = true then _ else firstO f (l ++ z)) = _
    rw [h p List.mem_cons_self, if_neg (by decide), firstO_app f z l fun n hn => h n (List.mem_cons_of_mem _ hn)]
noncomputable def wrongP : PyData → Option PyData
  | .tuple ds => if ds.length = 0 then some .none else firstO (oddAt ds) (List.range ds.length)
  | _ => some .none
end GR
namespace J
open PySem PySem.Spec
open PyProof.Rows L2
section
variable {w : World} {P : Program} {K : PySem.W.Frag} {base : Heap} {mg : Str → Option Value} {Ce : Addr}
theorem cPcA (T : Gf mg) (hP : ∃ t, mg "LONGEST_PIECE" = some (.int 4 t)) (D : Df K mg "is_piece" sIsPiece) : Cal P w K mg base "is_piece" 1 ["value"] (fn1 (fun d => isObj d = false ∧ ∀ s, d = .str s → s.length ≤ 1000000) fun d => .bool (GR.pieceB d)) := by
  refine D.cal scPc (fun _ _ _ _ _ _ us hl => len1 us hl fun _ => rfl) (by decide) (fun rs μ r μ' h => by obtain ⟨d, _, _, _, rfl⟩ := h; rfl) fun f cdv A outer s H E hr rs μ r μ' hC => ?_
  obtain ⟨d, rfl, ⟨hob, hs⟩, rfl, rfl⟩ := hC
  cases hd : isStrL d with
  | false =>
    refine ST.ifYes (WV.tv (WV.orT (TV.not (TV.val (isI T.bt (nm 0) (kit_str d) (by decide +kernel) T.bt.str))) (by rw [hd]; rfl))) rfl ?_
    refine ST.retP EV.bl ?_ (by simp)
    cases d <;> first | rfl | cases hd
  | true =>
    obtain ⟨s, rfl⟩ : ∃ s, d = .str s := by cases d <;> first | exact ⟨_, rfl⟩ | cases hd
    have hl := sz (hs s rfl)
    have hsz : s.length = s.cps.size := rfl
    refine ST.ifR (WV.tv (WV.orF (TV.not (TV.val (isI T.bt (nm 0) (kit_str _) (by decide +kernel) T.bt.str))) (WV.or1 (TV.not (tChainLe op_le op_le EV.int (bLenS T.bt (nm 0) hl) (gI hP)))))) (fun hk => ?_) (fun hk => ?_)
    · refine ST.retP EV.bl ?_ (by simp)
      have : GR.pieceOk s = false := by
        unfold GR.pieceOk
        simp only [Bool.not_eq_true'] at hk
        rw [hk, Bool.false_and]
      exact congrArg (fun b => Bb b) this.symm
    · simp only [Bool.not_eq_false'] at hk
      have hk2 := hk
      simp only [Bool.and_eq_true, decide_eq_true_eq] at hk2
      have : GR.pieceB (.str s) = (s.cps.toList.map fun c => decide (c ∈ M.letters.cps.toList)).all id := by
        show GR.pieceOk s = _
        unfold GR.pieceOk
        rw [hk, Bool.true_and]
      refine ST.retP (bAll (bs := s.cps.toList.map fun c => decide (c ∈ M.letters.cps.toList)) T.bt rfl (EV.eq (LCV.evf (own := [("sign", 1)]) (LCV.map (sgn1 fun c => decide (c ∈ M.letters.cps.toList)) (IV.str (nm 0)) (fun d hd => ?_) (by simp [strD]; omega)) rfl scPc.nd (blkOk_by (N := ["value", "sign"]) (sc := defScope sIsPiece) (by decide +kernel))).ev (congrArg Ls (sgn1_map _ _)))) (congrArg (fun b => Bb b) this.symm) (by simp)
      obtain ⟨c, _, rfl⟩ := List.mem_map.mp hd
      exact ⟨_, fun _ _ _ _ _ => GV.name (i := 1) scPc.nd rfl (Or.inl rfl) (by simp), fun _ _ _ _ _ => cInSign (nm 1) (gS T.letters)⟩
noncomputable def pcsOk (C : Addr) (μ : Sto) (e : Ent) (d : PyData) : Prop := (e = .dat d ∧ ((isObj d = false ∧ ∀ ds, d = .tuple ds → ∀ x ∈ ds, isObj x = false ∧ ∀ s, x = .str s → s.length ≤ 1000000) ∨ ∃ fs, d = obD C fs)) ∨ ∃ k ds, e = .ptr k ∧ μ[k]? = some ds ∧ d = .none
noncomputable def cnCpX (C Ce : Addr) : ConX := fun rs μ o => ∃ e d, rs = [e] ∧ pcsOk C μ e d ∧ o = chkRes Ce μ (GR.wrongP d)
theorem cCpX {C : Addr} (ic : C8.InsC K C) (kO : PySem.W.kitOne K (.ref C) (.type "tuple") = some false) (T : Bt mg) (hM : ∃ t, mg "MOST_PIECES" = some (.int 12 t)) (Ei : ExcK P w K mg base "InvalidPieces" Ce "index") (C1 : Cal P w K mg base "is_piece" 1 ["value"] (fn1 (fun d => isObj d = false ∧ ∀ s, d = .str s → s.length ≤ 1000000) fun d => .bool (GR.pieceB d))) (D : Df K mg "check_pieces" sCheckPieces) : CalX P w K mg base "check_pieces" 3 ["pieces"] (cnCpX C Ce) := by
  refine D.calX scCp (fun _ _ _ _ _ _ us hl => len1 us hl fun _ => rfl) (by decide) fun f cdv A outer s0 H E hr rs μ o hC => ?_
  obtain ⟨e, d, rfl, hpo, rfl⟩ := hC
  have tk : L2N.Takes (cxOf (L2N.CX P w) P w K mg base nCp "check_pieces" (defScope sCheckPieces) f cdv A outer s0 H E) (fun cls d _ H => E cls d H) := L2N.takes_of rfl rfl rfl rfl
  rcases hpo with ⟨rfl, ⟨hob, hsm⟩ | ⟨fs, rfl⟩⟩ | ⟨k, ds, rfl, hk, rfl⟩
  rotate_left
  · have hw : GR.wrongP (obD C fs) = some .none := rfl
    rw [hw]
    refine ST.ifX (k := true) (WV.tv (WV.orT (TV.not (TV.val (EV.isO ic kO T.isinstance T.tuple (by decide +kernel) (EV.dob (nm 0))))) rfl)) (fun _ => ?_) (fun z => by cases z)
    exact ST.raise Ei tk hr (d := .none) EV.non (by show _ = _; rw [List.take_length]; rfl)
  · have hw : GR.wrongP .none = some .none := rfl
    rw [hw]
    refine ST.ifX (k := true) (WV.tv (WV.orT (TV.not (TV.val (EV.isP (T := "tuple") (b := false) (nm 0) hk (by decide +kernel) T.isinstance T.tuple (by decide +kernel)))) rfl)) (fun _ => ?_) (fun z => by cases z)
    exact ST.raise Ei tk hr (d := .none) EV.non (by show _ = _; rw [List.take_length]; rfl)
  cases hd : isTupleL d with
  | false =>
    have hw : GR.wrongP d = some .none := by cases d <;> first | rfl | cases hd
    rw [hw]
    refine ST.ifX (WV.tv (WV.orT (TV.not (TV.val (isI T (nm 0) (kit_tuple d) (by decide +kernel) T.tuple))) (by rw [hd]; rfl))) (fun _ => ?_) (fun z => by cases z)
    exact ST.raise Ei tk hr (d := .none) EV.non (by show _ = _; rw [List.take_length]; rfl)
  | true =>
    obtain ⟨ds, rfl⟩ : ∃ ds, d = .tuple ds := by cases d <;> first | exact ⟨_, rfl⟩ | cases hd
    have hsp := hsm ds rfl
    refine ST.ifX (WV.tv (WV.orF (TV.not (TV.val (isI T (nm 0) (kit_tuple _) (by decide +kernel) T.tuple))) (WV.or1 (tEq (bLenT T (nm 0)) EV.int)))) (fun hk => ?_) (fun hk => ?_)
    · have h0 : ds.length = 0 := by
        have : (((ds.length : Nat) : Int) == 0) = true := hk
        have := beq_iff_eq.mp this
        omega
      have hw : GR.wrongP (.tuple ds) = some .none := if_pos h0
      rw [hw]
      exact ST.raise Ei tk hr (d := .none) EV.non (by show _ = _; rw [List.take_length]; rfl)
    have h0 : ds.length ≠ 0 := fun z => by
      have e : (((ds.length : Nat) : Int) == 0) = false := hk
      rw [z] at e
      cases e
    have hw : GR.wrongP (.tuple ds) = GR.firstO (GR.oddAt ds) (List.range ds.length) := if_neg h0
    rw [hw]
    refine ST.for_ (is := [1, 2]) (IV.enumT (nm 0) T.enumerate) (fun i ρ ν => (∃ a b, ρ = [some (Tp ds), a, b]) ∧ ν = μ ∧ ∀ j, j < i → GR.oddAt ds j = false) ⟨⟨_, _, rfl⟩, rfl, fun j hj => by omega⟩ (fun i d ρ ν hd hI => ?_) (fun ρ ν hI => ?_) rfl (passes_of rfl)
    · obtain ⟨⟨a, b, rfl⟩, hνμ, hbef⟩ := hI
      subst hνμ
      obtain ⟨x, hx, rfl⟩ := enD_get hd
      have hxm : x ∈ ds := List.mem_iff_getElem?.mpr ⟨i, hx⟩
      have hil : i < ds.length := (List.getElem?_eq_some_iff.mp hx).1
      have e0i : (((0 + i : Nat)) : Int) = (i : Int) := by omega
      obtain ⟨hxo, hxs⟩ := hsp x hxm
      refine ⟨_, GV.tup (GsV.cons (GV.name (i := 1) scCp.nd rfl (by first | exact Or.inl rfl | exact Or.inr rfl) (by simp)) (GsV.cons (GV.name (i := 2) scCp.nd rfl (by first | exact Or.inl rfl | exact Or.inr rfl) (by simp)) GsV.nil)), ?_⟩
      have hval : (decide (((0 + i : Nat) : Int) = 12) || !GR.pieceB x) = GR.oddAt ds i := by
        unfold GR.oddAt
        rw [List.getD_eq_getElem?_getD, hx]
        show _ = (decide (i = 12) || !GR.pieceB x)
        rw [decide_eq_decide.mpr (show (((0 + i : Nat) : Int) = 12) ↔ i = 12 by omega)]
      refine ST.ifX (k := GR.oddAt ds i) (TV.eq (WV.tv (WV.orP (TV.eq (tEq (d := .int ((0 + i : Nat) : Int)) (d2 := .int 12) (nm 1) (gI hM)) (show _ = decide (((0 + i : Nat) : Int) = 12) from rfl)) (WV.or1 (TV.not (TV.val (EV.call C1 (hr.mono (by decide)) (AV.cons (nm 2) AV.nil) ⟨x, rfl, ⟨hxo, hxs⟩, rfl, rfl⟩)))))) hval) (fun hk => ?_) (fun hk => ST.nil ⟨⟨_, _, rfl⟩, rfl, fun j hj => ?_⟩)
      · have er : List.range ds.length = List.range i ++ (i :: (List.range (ds.length - i - 1)).map (i + 1 + ·)) := by
          have : ds.length = i + (1 + (ds.length - i - 1)) := by omega
          conv => lhs; rw [this, List.range_add, Nat.add_comm 1, List.range_succ_eq_map]
          simp [Function.comp_def, Nat.add_assoc, Nat.add_comm 1]
        have hfo : GR.firstO (GR.oddAt ds) (List.range ds.length) = some (.int (i : Int)) := by
          rw [er, GR.firstO_app _ _ _ fun j hj => hbef j (List.mem_range.mp hj)]
          unfold GR.firstO
          rw [if_pos hk]
        rw [hfo]
        exact ST.raise Ei tk hr (nm 1) (by show _ = _; rw [List.take_length, e0i]; rfl)
      · by_cases hji : j = i
        · rw [hji]; exact hk
        · exact hbef j (by omega)
    · obtain ⟨⟨a, b, rfl⟩, hνμ, hbef⟩ := hI
      subst hνμ
      rw [enD_len] at hbef
      have hfo := GR.firstO_app (GR.oddAt ds) [] (List.range ds.length) fun j hj => hbef j (List.mem_range.mp hj)
      rw [List.append_nil] at hfo
      rw [hfo]
      exact ST.nil ⟨_, _, rfl, rfl, (List.append_nil _).symm⟩
end
end J
namespace GR
open PySem J L2 M
theorem firstO_none (f : Nat → Bool) : ∀ l : List Nat, firstO f l = none → ∀ n ∈ l, f n = false
  | [], _, n, h => by cases h
  | p :: l, hf, n, h => by
    unfold firstO at hf
    cases hp : f p with
    | true => rw [hp, if_pos rfl] at hf; cases hf
    | false =>
      rw [hp, if_neg (by decide)] at hf
      rcases List.mem_cons.mp h with rfl | h
      · exact hp
      · exact firstO_none f l hf n h
theorem piece_of {s : Str} (h : pieceOk s = true) : Piece s := by
  unfold pieceOk at h
  rw [Bool.and_eq_true, Bool.and_eq_true, decide_eq_true_eq, decide_eq_true_eq, List.all_map, List.all_eq_true] at h
  exact ⟨by omega, fun c hc => of_decide_eq_true (h.2 c hc)⟩
theorem strs_of : ∀ ds : List PyData, (∀ x ∈ ds, pieceB x = true) → ∃ ws : List Str, ds = ws.map .str ∧ ∀ s ∈ ws, Piece s
  | [], _ => ⟨[], rfl, fun s h => by cases h⟩
  | x :: ds, h => by
    obtain ⟨ws, e, hp⟩ := strs_of ds fun y hy => h y (List.mem_cons_of_mem _ hy)
    have hx := h x List.mem_cons_self
    cases x <;> first | (exfalso; cases hx; done) | skip
    rename_i s
    refine ⟨s :: ws, by rw [List.map_cons, e], fun t ht => ?_⟩
    rcases List.mem_cons.mp ht with rfl | ht
    · exact piece_of hx
    · exact hp t ht
theorem pieces_of {d : PyData} (h : wrongP d = none) : ∃ ws : List Str, d = .tuple (ws.map .str) ∧ (1 ≤ ws.length ∧ ws.length ≤ 12) ∧ ∀ s ∈ ws, Piece s := by
  obtain ⟨ds, rfl⟩ : ∃ ds, d = .tuple ds := by cases d <;> first | exact ⟨_, rfl⟩ | cases h
  replace h : (if ds.length = 0 then some .none else firstO (oddAt ds) (List.range ds.length)) = none := h
  by_cases h0 : ds.length = 0
  · rw [if_pos h0] at h
    cases h
  · rw [if_neg h0] at h
    have hf := firstO_none _ _ h
    have hb : ∀ x ∈ ds, pieceB x = true := fun x hx => by
      obtain ⟨i, hi⟩ := List.mem_iff_getElem?.mp hx
      have := hf i (List.mem_range.mpr (List.getElem?_eq_some_iff.mp hi).1)
      unfold oddAt at this
      rw [Bool.or_eq_false_iff, List.getD_eq_getElem?_getD, hi] at this
      simpa using this.2
    obtain ⟨ws, rfl, hp⟩ := strs_of ds hb
    rw [List.length_map] at h0 hf
    refine ⟨ws, rfl, ⟨by omega, ?_⟩, hp⟩
    refine Decidable.byContradiction fun z => ?_
    have := hf 12 (List.mem_range.mpr (by omega))
    unfold oddAt at this
    rw [Bool.or_eq_false_iff] at this
    exact absurd this.1 (by decide)
end GR
namespace J
open PySem PySem.Spec
open PyProof.Rows L2
noncomputable def rowIni (C Ce : Addr) (ps : List PyData) (n : Str) (g : Str × Int) (b : Int) (tx : List PyData) (d : PyData) : Ini :=
  match GR.wrongP d, d with
  | none, .tuple ds => .ok (rowD C ps n ds ds 0 (dueL g (ds.map M.strOf)) (if (ds.length : Int) ≤ b then 1 else (tx.length : Int)))
  | some i, _ => .error (Ce, [("index", i)])
  | none, _ => .error (Ce, [])
end J
namespace J
open PySem PySem.Spec
open PyProof.Rows L2
section
variable {w : World} {P : Program} {K : PySem.W.Frag} {base : Heap} {mg : Str → Option Value} {C Cn Cu : Addr}
noncomputable def cnCkBX (C Cn : Addr) : ConX := fun rs μ o => ∃ d : PyData, rs = [.dat d] ∧ ((∃ fs, d = obD C fs ∧ o = .ok Nn μ) ∨ (isObj d = false ∧ o = .rse Cn [(("given" : Str), d)] μ))
theorem cCkBX (ic : C8.InsC K C) (no : NoTs K C) (T : Bt mg) (at_ : mg "Book" = some (.ref C)) (En : ExcK P w K mg base "NotABook" Cn "given") (D : Df K mg "check_book" sCheckBook) : CalX P w K mg base "check_book" 3 ["book"] (cnCkBX C Cn) := by
  refine D.calX scCkB (fun _ _ _ _ _ _ us hl => len1 us hl fun _ => rfl) (by decide) fun f cdv A outer s H E hr rs μ o hC => ?_
  have tk : L2N.Takes (cxOf (L2N.CX P w) P w K mg base ["book"] "check_book" (defScope sCheckBook) f cdv A outer s H E) (fun cls d _ H => E cls d H) := L2N.takes_of rfl rfl rfl rfl
  obtain ⟨d, rfl, ⟨fs, rfl, rfl⟩ | ⟨ho, rfl⟩⟩ := hC
  · refine ST.ifNo (TV.not (TV.val (EV.isC ic T.isinstance at_ (EV.dob (nm 0))))) rfl (ST.nil ⟨[], μ, rfl, rfl, (List.append_nil μ).symm⟩)
  · refine ST.ifX (k := true) (TV.not (TV.val (EV.isN no ho T.isinstance at_ (nm 0)))) (fun _ => ?_) (fun z => by cases z)
    refine ST.raise En tk hr (nm 0) ?_
    show _ = _
    rw [List.take_length]
noncomputable def cnPlOX (C Cn Cu : Addr) : ConX := fun rs μ o => ∃ d n : PyData, rs = [.dat d, .dat n] ∧ ((∃ ps, d = obD C [("kept", .tuple ps)] ∧ M.Good ps ∧ (isObj n = false ∨ ∃ fs, n = obD C fs) ∧ o = planRes Cu ps n μ) ∨ (isObj d = false ∧ o = .rse Cn [(("given" : Str), d)] μ))
theorem cPlOX (B : Kl K C) (M1 : MthX P w K mg base C "plan" 4 ["self", "name"] (cnPlanO C Cu)) (C1 : CalX P w K mg base "check_book" 3 ["book"] (cnCkBX C Cn)) (D : Df K mg "plan_of" sPlanOf) : CalX P w K mg base "plan_of" 5 ["book", "name"] (cnPlOX C Cn Cu) := by
  refine D.calX scPlO (fun _ _ _ _ _ _ us hl => len2 us hl fun _ _ => rfl) (by decide) fun f cdv A outer s H E hr rs μ o hC => ?_
  have tk : L2N.Takes (cxOf (L2N.CX P w) P w K mg base ["book", "name"] "plan_of" (defScope sPlanOf) f cdv A outer s H E) (fun cls d _ H => E cls d H) := L2N.takes_of rfl rfl rfl rfl
  obtain ⟨d, n, rfl, ⟨ps, rfl, G, hn, rfl⟩ | ⟨ho, rfl⟩⟩ := hC
  · refine ST.exprR (EVR.call C1 tk (hr.mono (by decide)) (AV.cons (nm 0) AV.nil) ⟨_, rfl, .inl ⟨_, rfl, rfl⟩⟩) ?_
    refine ST.retR (EVR.meth (EV.dob (nm 0)) B.cl M1 tk hr rfl (AV.cons (nm 1) AV.nil) ⟨ps, n, rfl, ⟨G, hn⟩, rfl⟩) ?_
    unfold planRes
    cases M.findN (ps.map M.nameOf) n with
    | none =>
      show _ = _
      rw [List.take_length]
    | some j =>
      show _ = _
      rw [List.take_length]
      rfl
  · refine ST.exprR (EVR.call C1 tk (hr.mono (by decide)) (AV.cons (nm 0) AV.nil) ⟨_, rfl, .inr ⟨ho, rfl⟩⟩) ?_
    show _ = _
    rw [List.take_length]
end
end J
namespace J
open PySem PySem.Spec
open PyProof.Rows L2
noncomputable def conRowA (C Ce Cn Cu : Addr) (rs : List Ent) (μ : Sto) (o : Ini) : Prop :=
  (∃ (d n : PyData) (e : Ent), rs = [.dat d, .dat n, e] ∧ isObj d = false ∧ o = .error (Cn, [("given", d)])) ∨
  (∃ (ps : List PyData) (n : PyData) (e : Ent), rs = [.dat (obD C [("kept", .tuple ps)]), .dat n, e] ∧ M.Good ps ∧ (isObj n = false ∨ ∃ fs, n = obD C fs) ∧ M.findN (ps.map M.nameOf) n = none ∧ o = .error (Cu, [("given", n)])) ∨
  (∃ (ps : List PyData) (n : Str) (j : Nat) (g : Str × Int) (b : Int) (tx : List PyData) (e : Ent) (d : PyData), rs = [.dat (obD C [("kept", .tuple ps)]), Ss n, e] ∧ (M.Good ps ∧ M.findN (ps.map M.nameOf) (.str n) = some j ∧ ps[j]? = some (.tuple [.str n, .str (G.aim g), .int b, .tuple tx]) ∧ GL.Gg g) ∧ pcsOk C μ e d ∧ o = rowIni C Ce ps n g b tx d)
section
variable {w : World} {P : Program} {K : PySem.W.Frag} {base : Heap} {mg : Str → Option Value} {C R Ce Cn Cu : Addr}
theorem okRowA {f : Addr} {fd : FuncData} (T : Bt mg) (F : Fun K "__init__" "Row.__init__" sRowInit f fd) (B : KlR K R) (C1 : CalX P w K mg base "plan_of" 5 ["book", "name"] (cnPlOX C Cn Cu)) (C2 : CalX P w K mg base "check_pieces" 3 ["pieces"] (cnCpX C Ce)) (C3 : Cal P w K mg base "goal_texts" 3 ["goal", "words"] cnGtx) : FnOk P w K mg base (L2N.CX P w) 6 f fd ["self", "book", "name", "pieces"] (spInitFX K R (conRowA C Ce Cn Cu)) := by
  refine okInitFX F scRowInit (by decide) (fun rs μ o h => by rcases h with ⟨_, _, _, rfl, _⟩ | ⟨_, _, _, rfl, _⟩ | ⟨_, _, _, _, _, _, _, _, rfl, _⟩ <;> rfl) fun cdv A outer s H E hr tk rs μ o hC => ?_
  rcases hC with ⟨d, n, eP, rfl, ho, rfl⟩ | ⟨ps, n, eP, rfl, hG, hn, hf, rfl⟩ | ⟨ps, n, j, g, b, tx, eP, d, rfl, ⟨hG, hf, hp, hg⟩, hsm, rfl⟩
  · exact SIX.setE (i := 4) (EVR.call C1 tk hr (AV.cons (nm 1) (AV.cons (nm 2) AV.nil)) ⟨d, n, rfl, .inr ⟨ho, rfl⟩⟩) scRowInit.nd rfl (Or.inl rfl)
  · exact SIX.setE (i := 4) (EVR.call C1 tk hr (AV.cons (nm 1) (AV.cons (nm 2) AV.nil)) ⟨_, n, rfl, .inl ⟨ps, rfl, hG, hn, by unfold planRes; rw [hf]⟩⟩) scRowInit.nd rfl (Or.inl rfl)
  have a1 : ([PyData.str n, .str (G.aim g), .int b, .tuple tx])[1]? = some (.str (G.aim g)) := rfl
  have a2 : ([PyData.str n, .str (G.aim g), .int b, .tuple tx])[2]? = some (.int b) := rfl
  have a3 : ([PyData.str n, .str (G.aim g), .int b, .tuple tx])[3]? = some (.tuple tx) := rfl
  have hpr : Res.ok (.dat (.tuple [.str n, .str (G.aim g), .int b, .tuple tx])) μ = planRes Cu ps (.str n) μ := by
    unfold planRes
    rw [hf]
    show _ = Res.ok (.dat (ps.getD j .none)) μ
    rw [List.getD_eq_getElem?_getD, hp]
    rfl
  refine SIX.set (i := 4) (r := .dat (.tuple [.str n, .str (G.aim g), .int b, .tuple tx])) (EVR.ev (W := fun cls d _ H => E cls d H) (EVR.call C1 tk hr (AV.cons (nm 1) (AV.cons (nm 2) AV.nil)) ⟨_, .str n, rfl, .inl ⟨ps, rfl, hG, .inl rfl, hpr⟩⟩)) (by decide) scRowInit.nd rfl (Or.inl rfl) ?_
  cases hw : GR.wrongP d with
  | some i =>
    have e : rowIni C Ce ps n g b tx d = .error (Ce, [("index", i)]) := by
      unfold rowIni
      rw [hw]
    rw [e]
    exact SIX.exprE (EVR.call C2 tk (hr.mono (by decide)) (AV.cons (nm 3) AV.nil) ⟨eP, d, rfl, hsm, by rw [hw]; rfl⟩)
  | none =>
    obtain ⟨ws, rfl, ⟨h1, h12⟩, hpc⟩ := GR.pieces_of hw
    obtain rfl : eP = Tp (ws.map .str) := by
      rcases hsm with ⟨e, _⟩ | ⟨_, _, _, _, z⟩
      · exact e
      · cases z
    have e : rowIni C Ce ps n g b tx (.tuple (ws.map .str)) = .ok (rowD C ps n (ws.map .str) (ws.map .str) 0 (dueL g ws) (if (ws.length : Int) ≤ b then 1 else (tx.length : Int))) := by
      unfold rowIni
      rw [hw]
      dsimp only
      rw [List.length_map, List.map_map, show (M.strOf ∘ PyData.str) = id from rfl, List.map_id]
    rw [e]
    refine SIX.expr (r := Nn) (EVR.ev (W := fun cls d _ H => E cls d H) (EVR.call C2 tk (hr.mono (by decide)) (AV.cons (nm 3) AV.nil) ⟨_, _, rfl, hsm, by rw [hw]; rfl⟩)) ?_
    refine SIX.ok ?_
    refine SI.fld (nm 1) (pv 0) B.cl B.a1 (show ("source" : Str) ∉ ([] : List Str) by decide) (show 0 < 1000 by decide) ?_
    refine SI.fld (nm 2) (pv 0) B.cl B.a2 (show ("called" : Str) ∉ (["source"] : List Str) by decide) (show 1 < 1000 by decide) ?_
    refine SI.fld (nm 3) (pv 0) B.cl B.a3 (show ("pieces" : Str) ∉ (["source", "called"] : List Str) by decide) (show 2 < 1000 by decide) ?_
    refine SI.fld (nm 3) (pv 0) B.cl B.a4 (show ("held" : Str) ∉ (["source", "called", "pieces"] : List Str) by decide) (show 3 < 1000 by decide) ?_
    refine SI.fld EV.int (pv 0) B.cl B.a5 (show ("behind" : Str) ∉ (["source", "called", "pieces", "held"] : List Str) by decide) (show 4 < 1000 by decide) ?_
    refine SI.fld (d := .tuple (dueL g ws)) (bTupL T (EV.call C3 (hr.mono (by decide)) (AV.cons (ixT (nm 4) EV.int (at_nat a1)) (AV.cons (nm 3) AV.nil)) ⟨g, ws, rfl, ⟨hg, by omega, fun s hs => by have := (hpc s hs).len; omega⟩, rfl, rfl⟩)) (pv 0) B.cl B.a6 (show ("told" : Str) ∉ (["source", "called", "pieces", "held", "behind"] : List Str) by decide) (show 5 < 1000 by decide) ?_
    refine SI.fld (d := .int (if (ws.length : Int) ≤ b then 1 else (tx.length : Int))) (EV.ifx (k := decide ((ws.length : Int) ≤ b)) (TV.eq (tLe (bLenT T (nm 3)) (ixT (nm 4) EV.int (at_nat a2))) (by rw [List.length_map])) (fun z => EV.eq EV.int (by rw [if_pos (of_decide_eq_true z)])) (fun z => EV.eq (bLenT T (ixT (nm 4) EV.int (at_nat a3))) (by rw [if_neg (of_decide_eq_false z)]))) (pv 0) B.cl B.a7 (show ("whole" : Str) ∉ (["source", "called", "pieces", "held", "behind", "told"] : List Str) by decide) (show 6 < 1000 by decide) ?_
    exact SI.nil
end
end J
namespace G
open PySem J L2
noncomputable def tg22 (tags : List Str) (i : Nat) : Str := tags.getD i Str.empty
noncomputable def one22 (tags : List Str) (told : List PyData) (txt : Str) (bk : PyData) (sh : Str) : List PyData := [.none, .int 0, .bool true, .str txt, .tuple told, .list told, .dict [], .str (tg22 tags 0), .list [bk], .tuple [bk], .str sh]
noncomputable def two22 (tags : List Str) (bk : PyData) (aim : Str) : List PyData := [.none, .int 0, .bool true, .str "", .str "A", .str "nope", .list [], .dict [], .tuple [.str "a"], .str (tg22 tags 0 ++ "0"), .list (tags.map .str), bk, .str aim]
noncomputable def what22 (od : List PyData) (bk : PyData) (p : Pu) : PyData × Pu := if (draw 4 p).1 = 0 then pick .none od (draw 4 p).2 else (bk, (draw 4 p).2)
noncomputable def who22 (od tg : List PyData) (p : Pu) : PyData × Pu := if (draw 3 p).1 = 0 then pick .none od (draw 3 p).2 else pick .none tg (draw 3 p).2
noncomputable def ask22 (o1 : List PyData) (bk : PyData) (o2 tg : List PyData) (p : Pu) : Pu := (draw 8 (pieces 6 (who22 o2 tg (what22 o1 bk p).2).2).2).2
noncomputable def rows22 (ws : List PyData) : List PyData := [.tuple [], .tuple [.str "a", .str "b", .str ""], .list [], .tuple (.int 1 :: ws), .tuple (ws ++ [.str "B", .none])]
noncomputable def row22 (ws : List PyData) (way : Nat) : PyData := (rows22 ws).getD way (.tuple ws)
noncomputable def idx22 (ws : List PyData) : List PyData := [.none, .int 2, .none, .int 0, .int (ws.length : Int)]
end G
namespace N
open PySem J L2
theorem goalD_gg {p : G.Pu} (h : p.ok) : GL.Gg (G.goalD p).1 := by
  obtain ⟨a0, a1, h1⟩ := G.draw_ok (m := 4) h (by decide)
  obtain ⟨b0, b1, h2⟩ := G.draw_ok (m := 4) h1 (by decide)
  unfold G.goalD
  dsimp only
  split
  · rename_i hlt
    have : (G.draw 4 p).1 = 0 ∨ (G.draw 4 p).1 = 1 := by omega
    rcases this with e | e
    · rw [e]
      exact ⟨.inl ⟨rfl, rfl⟩⟩
    · rw [e]
      exact ⟨.inr (.inl ⟨rfl, rfl⟩)⟩
  · exact ⟨.inr (.inr ⟨rfl, by show (1 : Int) ≤ 1 + _; omega, by show 1 + _ ≤ (4 : Int); omega⟩)⟩
theorem mate_gg {tags : List Str} {mny : Int} {i : Nat} {p : G.Pu} (hp : p.ok) (hi : i < tags.length) (h1 : 1 ≤ mny) : GL.Gg (G.mate tags mny i p).1.goal := by
  have ht : tags ≠ [] := fun z => by rw [z] at hi; simp at hi
  obtain ⟨n0, n1, hp1⟩ := G.draw_ok (m := mny) hp (by omega)
  obtain ⟨r1, r2⟩ := G.run_ok (R := fun _ _ => True) (f := fun (_ : Nat) => G.round (tags.drop (i + 1)) tags) (List.range (1 + (G.draw mny p).1).toNat) _ (fun b _ q hq => ⟨trivial, round_ok hq ht⟩) hp1
  exact goalD_gg r2
theorem mates_gg {most mny : Int} {p : G.Pu} (hp : p.ok) (h1 : 1 ≤ most) (h4 : most ≤ 4) (m1 : 1 ≤ mny) : ∀ x ∈ (G.mates most mny p).1, GL.Gg x.goal := fun x hx => by
  obtain ⟨c0, c1, hp1⟩ := G.draw_ok (m := most) hp (by omega)
  have hl := tags_len (G.draw most p).2 (1 + (G.draw most p).1).toNat
  have hq := tags_ok hp1 (1 + (G.draw most p).1).toNat
  unfold G.mates at hx
  dsimp only at hx
  generalize (G.tags (G.draw most p).2 (1 + (G.draw most p).1).toNat).1 = tg at *
  generalize (G.tags (G.draw most p).2 (1 + (G.draw most p).1).toNat).2 = q at *
  obtain ⟨i, hi⟩ := List.mem_iff_getElem?.mp hx
  have hil : i < tg.length := by
    have := (List.getElem?_eq_some_iff.mp hi).1
    rwa [matesN_len] at this
  rw [matesN_get _ hil] at hi
  cases hi
  exact mate_gg (matesN_ok hq (fun z => by rw [z] at hil; simp at hil) (by omega) i) hil m1
theorem name_in {tags : List Str} {i : Nat} (hi : i < tags.length) : G.tg22 tags i ∈ tags := by
  have e : G.tg22 tags i = tags[i] := by
    unfold G.tg22
    rw [List.getD_eq_getElem?_getD, List.getElem?_eq_getElem hi]
    rfl
  rw [e]
  exact List.getElem_mem hi
noncomputable def smC (a b : Nat) (d : PyData) : Bool := lay2 d && d.showable && decide (d.depth ≤ a) && decide (rlen2 d ≤ b)
theorem sm_c {a b : Nat} {d : PyData} (h : smC a b d = true) : Sm2 a b d := by
  unfold smC at h
  simp only [Bool.and_eq_true, decide_eq_true_eq] at h
  exact ⟨h.1.1.1, h.1.1.2, h.1.2, h.2⟩
theorem ask22_ok {o1 o2 tg : List PyData} {bk : PyData} {p : G.Pu} (h : p.ok) (h1 : o1 ≠ []) (h2 : o2 ≠ []) (h3 : tg ≠ []) : (G.ask22 o1 bk o2 tg p).ok ∧ ((G.what22 o1 bk p).1 = bk ∨ (G.what22 o1 bk p).1 ∈ o1) ∧ (G.what22 o1 bk p).2.ok ∧ ((G.who22 o2 tg (G.what22 o1 bk p).2).1 ∈ tg ∨ (G.who22 o2 tg (G.what22 o1 bk p).2).1 ∈ o2) ∧ (G.who22 o2 tg (G.what22 o1 bk p).2).2.ok := by
  have a : ((G.what22 o1 bk p).1 = bk ∨ (G.what22 o1 bk p).1 ∈ o1) ∧ (G.what22 o1 bk p).2.ok := by
    have hp1 := (G.draw_ok (m := 4) h (by decide)).2.2
    unfold G.what22
    split
    · obtain ⟨z1, z2⟩ := G.pick_ok (d := PyData.none) hp1 h1
      exact ⟨.inr z1, z2⟩
    · exact ⟨.inl rfl, hp1⟩
  obtain ⟨a1, a2⟩ := a
  have b : ((G.who22 o2 tg (G.what22 o1 bk p).2).1 ∈ tg ∨ (G.who22 o2 tg (G.what22 o1 bk p).2).1 ∈ o2) ∧ (G.who22 o2 tg (G.what22 o1 bk p).2).2.ok := by
    have hp1 := (G.draw_ok (m := 3) a2 (by decide)).2.2
    unfold G.who22
    split
    · obtain ⟨z1, z2⟩ := G.pick_ok (d := PyData.none) hp1 h2
      exact ⟨.inr z1, z2⟩
    · obtain ⟨z1, z2⟩ := G.pick_ok (d := PyData.none) hp1 h3
      exact ⟨.inl z1, z2⟩
  obtain ⟨b1, b2⟩ := b
  refine ⟨?_, a1, a2, b1, b2⟩
  obtain ⟨_, c, _, _⟩ := G.pieces_ok (most := 6) b2 (by decide)
  exact (G.draw_ok (m := 8) c (by decide)).2.2
theorem piece_b {s : Str} (h : GR.Piece s) : GR.pieceB (.str s) = true := by
  show ((decide (1 ≤ (s.length : Int)) && decide ((s.length : Int) ≤ 4)) && _) = true
  have h1 := h.len
  rw [decide_eq_true (show (1 : Int) ≤ (s.length : Int) by omega), decide_eq_true (show (s.length : Int) ≤ 4 by omega)]
  show (s.cps.toList.map fun c => decide (c ∈ M.letters.cps.toList)).all id = true
  rw [List.all_map, List.all_eq_true]
  exact fun c hc => decide_eq_true (h.abc c hc)
theorem odd_no {ws : List Str} (h : ∀ s ∈ ws, GR.Piece s) (h6 : ws.length ≤ 6) (tl : List PyData) : ∀ n ∈ List.range ws.length, GR.oddAt (ws.map PyData.str ++ tl) n = false := fun n hn => by
  have hl := List.mem_range.mp hn
  unfold GR.oddAt
  have e : (ws.map PyData.str ++ tl).getD n .none = .str ws[n] := by
    rw [List.getD_eq_getElem?_getD, List.getElem?_append_left (by rw [List.length_map]; exact hl), List.getElem?_map, List.getElem?_eq_getElem hl]
    rfl
  rw [e, piece_b (h _ (List.getElem_mem hl)), decide_eq_false (by omega)]
  rfl
theorem good_row {ws : List Str} (h : ∀ s ∈ ws, GR.Piece s) (h1 : 1 ≤ ws.length) (h6 : ws.length ≤ 6) : GR.wrongP (.tuple (ws.map .str)) = none := by
  show (if (ws.map PyData.str).length = 0 then _ else _) = _
  rw [if_neg (by rw [List.length_map]; omega), List.length_map]
  have := GR.firstO_app (GR.oddAt (ws.map PyData.str)) [] (List.range ws.length) fun n hn => by
    have := odd_no h h6 [] n hn
    rwa [List.append_nil] at this
  rw [List.append_nil] at this
  exact this
theorem bad_row {ws : List Str} (h : ∀ s ∈ ws, GR.Piece s) (h1 : 1 ≤ ws.length) (h6 : ws.length ≤ 6) {way : Nat} (hw : way < 5) : ∃ i, GR.wrongP (G.row22 (ws.map .str) way) = some i ∧ (G.idx22 (ws.map .str))[way]? = some i ∧ (i = .none ∨ ∃ n : Nat, n < 100 ∧ i = .int (n : Int)) := by
  match way, hw with
  | 0, _ => exact ⟨_, rfl, rfl, .inl rfl⟩
  | 1, _ =>
    refine ⟨.int 2, ?_, rfl, .inr ⟨2, by decide, rfl⟩⟩
    have a0 : GR.oddAt [.str "a", .str "b", .str ""] 0 = false := by decide +kernel
    have a1 : GR.oddAt [.str "a", .str "b", .str ""] 1 = false := by decide +kernel
    have a2 : GR.oddAt [.str "a", .str "b", .str ""] 2 = true := by decide +kernel
    show GR.firstO (GR.oddAt [.str "a", .str "b", .str ""]) [0, 1, 2] = _
    unfold GR.firstO
    rw [a0, if_neg (by decide)]
    unfold GR.firstO
    rw [a1, if_neg (by decide)]
    unfold GR.firstO
    rw [a2, if_pos rfl]
    rfl
  | 2, _ => exact ⟨_, rfl, rfl, .inl rfl⟩
  | 3, _ =>
    refine ⟨.int 0, ?_, rfl, .inr ⟨0, by decide, rfl⟩⟩
    show (if (PyData.int 1 :: ws.map PyData.str).length = 0 then some PyData.none else GR.firstO (GR.oddAt (PyData.int 1 :: ws.map PyData.str)) (List.range (PyData.int 1 :: ws.map PyData.str).length)) = _
    rw [if_neg (by simp), List.length_cons, List.range_succ_eq_map]
    rfl
  | 4, _ =>
    refine ⟨.int (ws.length : Int), ?_, by unfold G.idx22; rw [List.length_map]; rfl, .inr ⟨ws.length, by omega, rfl⟩⟩
    show (if (ws.map PyData.str ++ [PyData.str "B", .none]).length = 0 then _ else _) = _
    rw [if_neg (by simp)]
    have e : (ws.map PyData.str ++ [PyData.str "B", .none]).length = ws.length + 2 := by simp
    rw [e, List.range_succ, List.range_succ, List.append_assoc, GR.firstO_app _ _ _ (odd_no h h6 _)]
    have e2 : GR.oddAt (ws.map PyData.str ++ [PyData.str "B", .none]) ws.length = true := by
      unfold GR.oddAt
      have e3 : (ws.map PyData.str ++ [PyData.str "B", .none]).getD ws.length .none = .str "B" := by
        rw [List.getD_eq_getElem?_getD, List.getElem?_append_right (by simp)]
        simp
      rw [e3, show GR.pieceB (.str "B") = false by decide +kernel]
      simp
    show (if GR.oddAt (ws.map PyData.str ++ [PyData.str "B", .none]) ws.length = true then _ else _) = _
    rw [if_pos e2]
theorem row_data {ws : List Str} (h : ∀ s ∈ ws, GR.Piece s) (way : Nat) {C : Addr} {ν : Sto} : pcsOk C ν (.dat (G.row22 (ws.map .str) way)) (G.row22 (ws.map .str) way) := by
  have key : ∀ ds : List PyData, (∀ x ∈ ds, isObj x = false ∧ ∀ s, x = .str s → s.length ≤ 1000000) → pcsOk C ν (.dat (.tuple ds)) (.tuple ds) := fun ds hd => .inl ⟨rfl, .inl ⟨rfl, fun es e => by cases e; exact hd⟩⟩
  have hw : ∀ x ∈ ws.map PyData.str, isObj x = false ∧ ∀ s, x = .str s → s.length ≤ 1000000 := fun x hx => by
    obtain ⟨s, hs, rfl⟩ := List.mem_map.mp hx
    exact ⟨rfl, fun t e => by cases e; have := (h s hs).len; omega⟩
  have lit : ∀ s : Str, s.length ≤ 1000000 → isObj (.str s) = false ∧ ∀ t, PyData.str s = .str t → t.length ≤ 1000000 := fun s hs => ⟨rfl, fun t e => by cases e; exact hs⟩
  match way with
  | 0 => exact key [] fun x hx => by cases hx
  | 1 =>
    refine key [.str "a", .str "b", .str ""] fun x hx => ?_
    simp only [List.mem_cons, List.not_mem_nil, or_false] at hx
    rcases hx with rfl | rfl | rfl <;> exact lit _ (by decide)
  | 2 => exact .inl ⟨rfl, .inl ⟨rfl, fun es e => by cases e⟩⟩
  | 3 =>
    refine key (.int 1 :: ws.map .str) fun x hx => ?_
    rcases List.mem_cons.mp hx with rfl | hx
    · exact ⟨rfl, fun t e => by cases e⟩
    · exact hw x hx
  | 4 =>
    refine key (ws.map .str ++ [.str "B", .none]) fun x hx => ?_
    rcases List.mem_append.mp hx with hx | hx
    · exact hw x hx
    · simp only [List.mem_cons, List.not_mem_nil, or_false] at hx
      rcases hx with rfl | rfl
      · exact lit _ (by decide)
      · exact ⟨rfl, fun t e => by cases e⟩
  | n + 5 => exact key (ws.map .str) hw
theorem row_same {ws : List PyData} {way : Nat} (h : ¬ way < 5) : G.row22 ws way = .tuple ws := by
  unfold G.row22
  rw [List.getD_eq_getElem?_getD, List.getElem?_eq_none (by show 5 ≤ way; omega)]
  rfl
end N
namespace N
open PySem J L2
theorem lo_app {a b : Str} (ha : Lo a) (hb : Lo b) : Lo (a ++ b) := fun c hc => by
  rw [TL.tl_append] at hc
  rcases List.mem_append.mp hc with z | z
  · exact ha c z
  · exact hb c z
end N
namespace M
open PySem J L2
end M
namespace J
open PySem PySem.Spec
open PyProof.Rows L2
end J
namespace M
open PySem J L2
end M
namespace J
open PySem PySem.Spec
open PyProof.Rows L2
end J
namespace M
open PySem J L2
end M
namespace J
open PySem PySem.Spec
open PyProof.Rows L2
end J
namespace N
open PySem J L2
theorem lo_by3 {s : Str} (h : (TL.tl s).all (· < 256) = true) : Lo s := fun c hc => by
  have := List.all_eq_true.mp h c hc
  exact of_decide_eq_true this
theorem line_ok14 {lower tags : List Str} {r : List G.Part} (h : RoundGood lower tags r) : Lo (G.line r) ∧ (G.line r).length ≤ 200 := by
  refine ⟨lo_line h, ?_⟩
  have h0 := h.len
  have e1 : ((("; " : String) : Str)).length = 2 := by decide +kernel
  have h1 : ((r.map G.clause).map (·.length)).sum ≤ (r.map G.clause).length * 60 := sum_le _ _ _ fun x hx => by
    obtain ⟨y, hy, rfl⟩ := List.mem_map.mp hx
    exact clause_len (part_ok (h.good y hy))
  have h2 := join_le ("; " : Str) (r.map G.clause)
  have e3 : G.line r = Txt.join "; " (r.map G.clause) := rfl
  rw [e3]
  rw [List.length_map] at h1 h2
  rw [e1] at h2
  omega
theorem join_nl (ys : List Str) {b : Nat} (h : ∀ y ∈ ys, y.length ≤ b) : (Txt.join "\n" ys).length ≤ ys.length * (b + 1) := by
  have h1 := join_le "\n" ys
  have h2 := sum_le (fun y : Str => y.length) b ys h
  have e : ((("\n" : String)) : Str).length = 1 := by decide +kernel
  rw [e] at h1
  rw [Nat.mul_add]
  omega
theorem plan_small {tags : List Str} {i : Nat} {x : G.Mate} (h : MateGood tags i x) (hn : NamesOk tags) : Lo (M.planText (G.told x)) ∧ (M.planText (G.told x)).length ≤ 1206 := by
  have ok := mate_shape h hn
  have h1 := hn _ (List.mem_iff_getElem?.mpr ⟨i, h.tag⟩)
  have hm := h.many
  have hb := h.base
  have e : M.planText (G.told x) = Txt.join "\n" (M.headText x.tag (G.aim x.goal) x.base :: x.rounds.map G.line) := by
    show Txt.join "\n" (M.headText x.tag (G.aim x.goal) x.base :: (x.rounds.map fun r => PyData.str (G.line r)).map M.strOf) = _
    rw [List.map_map]
    rfl
  have hh : Lo (M.headText x.tag (G.aim x.goal) x.base) := by
    show Lo (Str.empty ++ "plan " ++ x.tag ++ " " ++ G.aim x.goal ++ " base " ++ M.strI x.base)
    exact lo_app (lo_app (lo_app (lo_app (lo_app (lo_app (lo_by3 (by decide +kernel)) (lo_by3 (by decide +kernel))) (lo_name h1)) (lo_by3 (by decide +kernel))) (lo_goal h.goal.1)) (lo_by3 (by decide +kernel))) (lo_dig ok.b.1 ok.b.2)
  have hl : ∀ y ∈ M.headText x.tag (G.aim x.goal) x.base :: x.rounds.map G.line, Lo y ∧ y.length ≤ 200 := fun y hy => by
    rcases List.mem_cons.mp hy with rfl | hy
    · exact ⟨hh, Nat.le_trans (head_len h1 h.goal.1 hb.1 hb.2) (by decide)⟩
    · obtain ⟨r, hr, rfl⟩ := List.mem_map.mp hy
      exact line_ok14 (h.rounds r hr)
  rw [e]
  refine ⟨lo_join (lo_by3 (by decide +kernel)) fun y hy => (hl y hy).1, Nat.le_trans (join_nl _ fun y hy => (hl y hy).2) ?_⟩
  rw [List.length_cons, List.length_map]
  omega
theorem text_small {tags : List Str} {ms : List G.Mate} (h : MatesGood tags ms) : Lo (G.textOf ms) ∧ (G.textOf ms).length ≤ 4828 := by
  have hl := h.l14
  have hm := h.len
  have each : ∀ y ∈ (ms.map G.told).map M.planText, Lo y ∧ y.length ≤ 1206 := fun y hy => by
    obtain ⟨d, hd, rfl⟩ := List.mem_map.mp hy
    obtain ⟨x, hx, rfl⟩ := List.mem_map.mp hd
    obtain ⟨i, hi⟩ := List.mem_iff_getElem?.mp hx
    exact plan_small (h.each i x hi) h.names
  rw [← text_eq]
  refine ⟨lo_join (lo_by3 (by decide +kernel)) fun y hy => (each y hy).1, Nat.le_trans (join_nl _ fun y hy => (each y hy).2) ?_⟩
  rw [List.length_map, List.length_map]
  omega
end N
namespace J
open PySem PySem.Spec
open PyProof.Rows L2
end J
namespace J
open PySem PySem.Spec
open PyProof.Rows L2
end J
namespace J
open PySem PySem.Spec
open PyProof.Rows L2
end J
namespace J
open PySem PySem.Spec
open PyProof.Rows L2
end J
namespace J
open PySem PySem.Spec
open PyProof.Rows L2
end J
namespace J
open PySem PySem.Spec
open PyProof.Rows L2
noncomputable def AtP (ρ : REnv) (μ : Sto) : Out → Prop
  | .nx ρ' μ' => ρ' = ρ ∧ μ' = μ
  | _ => False
section
variable {X : Cx} {W : WX} {n : Nat} {ρ ρ2 : REnv} {μ μ1 μ2 : Sto} {P : Out → Prop} {c : Expr} {body orelse rest : List Stmt} {pos : Pos} {k : Bool}
theorem ST.iffM (ρ2 : REnv) (μ2 : Sto) (h : TV X c ρ μ k μ1) (h1 : k = true → ST X W n body ρ μ1 (AtP ρ2 μ2)) (h2 : k = false → ST X W n orelse ρ μ1 (AtP ρ2 μ2)) (h3 : ST X W n rest ρ2 μ2 P) : ST X W n (.If c body orelse pos :: rest) ρ μ P := by
  have key : ∀ o, AtP ρ2 μ2 o → thenP X W n rest P o := fun o ho => by
    cases o with
    | nx ρ' μ' =>
      obtain ⟨rfl, rfl⟩ := ho
      exact h3
    | ret r μ' => exact ho.elim
    | brk ρ' μ' => exact ho.elim
    | ct ρ' μ' => exact ho.elim
    | rse ρ' μ' C fs => exact ho.elim
  exact ST.iff h (fun z => (h1 z).mono key) fun z => (h2 z).mono key
end
end J
namespace J
open PySem PySem.Spec
open PyProof.Rows L2
section
variable {w : World} {P : Program} {K : PySem.W.Frag} {base : Heap} {mg : Str → Option Value} {C : Addr}
noncomputable def spLawT (K : PySem.W.Frag) : Sp := fun vs H Q _ => ∃ (a : Addr) (ns : List Int), vs = [V.ref a] ∧ SqL K H a (ns.map V.int) ∧ LamX.Tabs (tabsK K) H ∧ ∀ H', Q (.bl true) H'
theorem scLaw : FnScope ["_law_script", "_law_k"] ["_law_script"] (defScope sLaw) := ⟨rfl, rfl, rfl, by decide +kernel, rfl, by decide +kernel, by decide +kernel⟩
theorem seq_dl {H : Hp} {a : Addr} {xs : List V} (h : SqL K H a xs) : SqL K (dl H (Wd.mk [] []).all) a xs := by
  have nin : a ∉ (Wd.mk [] []).all := fun z => by cases z
  rcases h with (h | ⟨o, h⟩) | h
  · exact .inl (.inl (dl_of nin h))
  · exact .inl (.inr ⟨o, dl_of nin h⟩)
  · exact .inr h
theorem mem0 {G : Hp} (t : LamX.Tabs (tabsK K) G) : Mem K G ⟨[], []⟩ [] := ⟨List.nodup_nil, rfl, (fun k a xs h1 => by simp at h1), (fun b hb => by cases hb), (fun b hb => by cases hb), t⟩
theorem len_mx (z : Int) (h0 : 0 ≤ z) : ∃ n : Nat, n ≤ 4 ∧ (if (if (4 : Int) < z then 4 else z) > 2 then (if (4 : Int) < z then 4 else z) else 2) = (n : Int) := by
  by_cases h1 : (4 : Int) < z
  · rw [if_pos h1]
    exact ⟨4, by decide, rfl⟩
  · rw [if_neg h1]
    by_cases h2 : z > 2
    · rw [if_pos h2]
      exact ⟨z.toNat, by omega, by omega⟩
    · rw [if_neg h2]
      exact ⟨2, by decide, rfl⟩
theorem gLawT (T : Bt mg) (C1 : Cal P w K mg base "_law_cell" 1 ["_law_script", "_law_k"] cnCell) (C2 : CalF P w K mg base "_law_purse" 1 ["_law_number"] cnPurse) {kr : Nat} {cnR : ConP} (C3 : CalGP P w K mg base "_law_right" (kr + 1) ["_law_purse_here"] cnR) (hR : ∀ p : G.Pu, p.ok → ∃ Φ, cnR [.ptr ([] : Sto).length] (([] : Sto) ++ [p.ds]) Φ ∧ ∀ r μ', Φ r μ' → r = Bb true ∧ ∃ ys, μ' = ([] : Sto) ++ [ys]) {f : Addr} {fd : FuncData} (F : Fun K "law" "law" sLaw f fd) : FnG P w K mg base (kr + 3) f fd ["_law_script"] (spLawT K) := by
  refine funG F scLaw (fun xs G R E h => ?_) (fun cdv B o t G xs R E hgd hr h => ?_)
  · obtain ⟨a, ns, rfl, _⟩ := h
    rfl
  · obtain ⟨a, ns, rfl, hs, ht, q⟩ := h
    have sl : Sl K G ⟨[], []⟩ (L2.start ["_law_script", "_law_k"] [.ref a]) [some (.scr ns), none] := sl_start (N := ["_law_script", "_law_k"]) (rs := [.scr ns]) (.cons (r := .scr ns) ⟨a, rfl, seq_dl hs⟩ .nil) (Nat.le_of_ble_eq_true rfl)
    refine ⟨_, pss_one (ps_ret p_ex), ?_⟩
    obtain ⟨n, hn4, hn⟩ := len_mx (ns.length : Int) (by omega)
    refine use_ev (μ := []) (ρ := [some (.scr ns), none]) (r := Bb (((List.range n).map fun _ => true).all id)) (bAll (bs := (List.range n).map fun _ => true) T rfl (EV.eq (LCV.evf (own := [("_law_k", 1)]) (LCV.mapT (bs := List.range n) (fun (i : Nat) => PyData.int (0 + (i : Int))) (fun _ => .bool true) (IV.eqD (IV.rng1 (EV.eq (EV.callB (call_max2 rfl) T.max (by decide +kernel) (AV.cons EV.int (AV.cons (EV.callB (call_min2 rfl) T.min (by decide +kernel) (AV.cons (bLenScr T (nm 0)) (AV.cons EV.int AV.nil)) cv_min) AV.nil)) cv_max) (congrArg Ii hn)) (by omega) (by omega) T.range) (by rw [Int.toNat_natCast]; rfl)) (fun i hi => ?_) (by simp; omega)) rfl scLaw.nd (blkOk_by (N := ["_law_script", "_law_k"]) (sc := defScope sLaw) (by decide +kernel))).ev (congrArg Ls (by rw [List.map_map]; rfl)))) (mem0 ht) sl fun v H1 m1 f1 h1 => ?_
    · have hil : i < n := List.mem_range.mp hi
      refine ⟨_, fun _ _ _ _ _ => GV.name (i := 1) scLaw.nd rfl (Or.inl rfl) (by simp), fun _ _ _ _ _ => ?_⟩
      obtain ⟨Φ, h1, h2⟩ := hR _ (purse_ok (cellOf ns i))
      exact EV.callNewP C3 hgd (hr.mono (by omega)) (EVF.call C2 (hr.mono (by omega)) (AV.cons (EV.call C1 (hr.mono (by omega)) (AV.cons (nm 0) (AV.cons (nm 1) AV.nil)) ⟨ns, i, by rw [Int.zero_add], by omega, rfl, rfl⟩) AV.nil) ⟨_, rfl, rfl⟩) h1 h2
    · have e : ((List.range n).map fun _ => true).all id = true := by
        rw [List.all_map, List.all_eq_true]
        exact fun _ _ => rfl
      rw [e] at h1
      cases h1
      exact q H1
structure TabF (K : PySem.W.Frag) (g : Heap) (cp : Addr × Addr) : Prop where
  emp : g.get? cp.2 = some { cls := .none, data := .fields #[] }
  out : K.lookup cp.2 = none
  code : PySem.W.CodeHd g cp.1 cp.2
theorem callT {mb : Str → Option Value} {k : Nat} {fa a : Addr} {cs : List (Addr × Addr)} {fd : FuncData} {x : Str} {t : Shared} {us : List Value} {ns : List Int} {sp : Sp}
    (inK : K.In t.heap) (gns : t.heap.Ns mainGlobals mg) (bns : t.heap.Ns builtinsNs mb) (bts : ∀ z : Str, z ≠ "__name__" → mb z = bootBuiltins z) (nol : t.heap.NoLimit) (ngen : t.gens = #[]) (tf : ∀ cp ∈ cs, TabF K t.heap cp)
    (bmn : ∃ (bm : Addr) (ob : Obj), mg "__builtins__" = some (.ref bm) ∧ bm ≠ builtinsNs ∧ t.heap.get? bm = some ob ∧ ob.cls = .type "module" ∧ ob.dict = some builtinsNs ∧ ob.data = .plain)
    (scr : t.heap.get? a = some { cls := .type "list", data := .seq us.toArray }) (his : IntsAre us ns) (small : ns.length ≤ sizeLine) (room : Room k callerA)
    (hF : ∀ bs : Heap, K.In bs → bs.Ns mainGlobals mg → (∀ cp ∈ cs, LamX.TabB bs mg cp.1 cp.2) → FnG P w K mg bs k fa fd [x] sp) (bnd : ∀ (t : Shared) (u : Value), BindsTo t fd ⟨[u], []⟩ [(x, u)])
    (hsp : ∀ G : Hp, (∀ cp ∈ cs, G cp.2 = some (.tbl #[])) → SqL K G a (ns.map V.int) → sp [.ref a] G (fun v _ => v = .bl true) fun _ _ _ => False) :
    codeAny (model P w) callerA (.call (.ref fa) ⟨[.ref a], []⟩) (fun r t' => r = .ok (.ret (.bool true)) ∧ OldK t.heap t'.heap ∧ t'.os = t.os ∧ AllBare t'.gens) t := by
  have vals := vals_ints his
  have many := his.length
  have tab0 : ∀ b : Addr, b ∈ cs.map (·.2) → t.heap.get? b = some { cls := .none, data := .fields #[] } := fun b hb => by
    obtain ⟨cp, hcp, rfl⟩ := List.mem_map.mp hb
    exact (tf cp hcp).emp
  have scrT : a ∉ cs.map (·.2) := fun hb => by
    have e1 := tab0 a hb
    rw [scr] at e1
    cases (show Data.seq us.toArray _ = Data.fields #[] from congrArg Obj.data (Option.some.inj e1))
  have inT : ∀ cp ∈ cs, cp.2 ∈ cs.map (·.2) := fun cp hcp => List.mem_map_of_mem hcp
  have main : ∀ G : Hp, (∀ cp ∈ cs, G cp.2 = some (.tbl #[])) → (∀ b, b ∉ cs.map (·.2) → G b = none ∨ ∃ ob ys, G b = some (.frz ob (.lst ys))) → SqL K G a (ns.map V.int) → HOk P w G t.heap → (∀ b, G b ≠ none → b = a ∨ b ∈ cs.map (·.2)) → (G a ≠ none → K.lookup a = none) →
      codeAny (model P w) callerA (.call (.ref fa) ⟨[.ref a], []⟩) (fun r t' => r = .ok (.ret (.bool true)) ∧ OldK t.heap t'.heap ∧ t'.os = t.os ∧ AllBare t'.gens) t := by
    intro G tabs only seq ok here lost
    have nothing : ∀ {b : Addr} {o : Obj}, t.heap.get? b = some o → (∀ ys n, o.data ≠ .seq ys n) → o.data ≠ .fields #[] → G b = none := fun {b o} e1 d1 d2 => by
      cases z : G b with
      | none => rfl
      | some u =>
        rcases here b (by rw [z]; exact Option.some_ne_none u) with ba | ba
        · rw [ba, scr] at e1
          cases e1
          exact absurd rfl (d1 _ _)
        · rw [tab0 b ba] at e1
          cases e1
          exact absurd rfl d2
    have noD : ∀ {b : Addr} {o : Obj} {es : Array DictEntry} {ep : Nat}, t.heap.get? b = some o → o.data = .dict es ep → G b = none := fun {b o es ep} e1 e2 => nothing e1 (fun ys n z => by rw [e2] at z; cases z) (fun z => by rw [e2] at z; cases z)
    have nsB : ∀ {b : Addr} {m : Str → Option Value}, t.heap.Ns b m → (hidT t.heap G).Ns b m := fun {b m} h => by
      obtain ⟨o, es, ep, e1, e2, e3⟩ := h
      exact ⟨o, es, ep, hidT_get e1 (noD e1 e2), e2, e3⟩
    have inB : K.In (hidT t.heap G) := fun b o e1 => hidT_get (inK b o e1) (by
      cases z : G b with
      | none => rfl
      | some u =>
        rcases here b (by rw [z]; exact Option.some_ne_none u) with ba | ba
        · rw [ba, lost (by rw [← ba, z]; exact Option.some_ne_none u)] at e1
          cases e1
        · obtain ⟨cp, hcp, ec⟩ := List.mem_map.mp ba
          rw [← ec, (tf cp hcp).out] at e1
          cases e1)
    have nolB : (hidT t.heap G).NoLimit := by
      obtain ⟨mc, l1, l2⟩ := nol
      exact ⟨mc, nsB l1, l2⟩
    have md : Mod K mg (hidT t.heap G) := ⟨inB, nsB gns, ⟨mb, nsB bns, bts⟩, nolB⟩
    have tb : ∀ cp ∈ cs, LamX.TabB (hidT t.heap G) mg cp.1 cp.2 := fun cp hcp => by
      have F0 := tf cp hcp
      refine ⟨?_, ?_, fun z => ?_⟩
      · obtain ⟨o, ws, file, tf', flags, tg, inF, text, tt, q1, q2, q3, q4, q5, q6, q7, q8, q9, qn⟩ := F0.code
        refine ⟨o, ws, file, tf', flags, tg, inF, text, tt, hidT_get q1 (nothing q1 (fun ys n z => ?_) fun z => ?_), q2, q3, q4, q5, q6, q7, q8, q9, qn⟩
        · rw [q3] at z
          cases z
        · rw [q3] at z
          cases z
          simp at q4
      · obtain ⟨bm, ob, b1, b2, b3, b4, b5, b6⟩ := bmn
        have notG : bm ≠ mainGlobals := fun z => by
          obtain ⟨o, es, ep, e1, e2, _⟩ := gns
          rw [z, e1] at b3
          cases b3
          rw [b6] at e2
          cases e2
        have notP : bm ≠ cp.2 := fun z => by
          rw [z, F0.emp] at b3
          cases b3
          cases b6
        refine ⟨bm, ob, b1, b2, notG, notP, hidT_get b3 (nothing b3 (fun ys n z => ?_) fun z => ?_), b4, b5, b6⟩
        · rw [b6] at z
          cases z
        · rw [b6] at z
          cases z
      · obtain ⟨o, es, ep, e1, e2, _⟩ := gns
        rw [z, F0.emp] at e1
        cases e1
        cases e2
    have en : Env0 P w K mg (hidT t.heap G) callerA [] t G := ⟨rfl, md, fun b o e1 => of_hidT e1, Nat.le_of_eq (hidT_size _ _), trivial, fun b hb => absurd (show b ∈ ([] : List Addr) from hb) List.not_mem_nil, ok, .of_eq ngen⟩
    refine codeAny_mono ((hF _ inB (nsB gns) tb).go callerA [] t G ⟨[.ref a], []⟩ [.ref a] [.ref a] _ _ rfl room en (bnd t (.ref a)) (.cons rfl .nil) (hsp G tabs seq)) fun r t' h => ?_
    match r, h with
    | .ok (.ret u), h =>
      obtain ⟨v, G', e1, e2, un, ok', rel, hv⟩ := h
      have hv' : v = .bl true := hv
      subst hv'
      obtain rfl : u = Value.bool true := rel
      have grown : ∀ cp ∈ cs, ∃ more : Array Value, t'.heap.get? cp.2 = some { cls := .none, data := .fields more } := fun cp hcp => by
        obtain ⟨more, z⟩ := un.tbls cp.2 #[] (tabs cp hcp)
        exact ⟨_, ok' cp.2 _ z⟩
      have rest : ∀ b o, b ∉ cs.map (·.2) → t.heap.get? b = some o → t'.heap.get? b = some o := fun b o nb e3 => by
        cases z : G b with
        | none => exact un.keep b o e3 z (fun y => absurd (show b ∈ ([] : List Addr) from y) List.not_mem_nil) List.not_mem_nil
        | some u =>
          rcases only b nb with y | ⟨ob, xs, y⟩
          · rw [z] at y
            cases y
          · obtain ⟨g1, _⟩ := ok b _ y
            obtain ⟨g2, _⟩ := ok' b _ (un.frzs b ob _ y)
            rw [e3] at g1
            cases g1
            exact g2
      refine ⟨rfl, ⟨fun b o e3 => ?_, fun b o e3 => ?_⟩, e1, e2⟩
      · rcases Decidable.em (b ∈ cs.map (·.2)) with hb | hb
        · obtain ⟨cp, hcp, rfl⟩ := List.mem_map.mp hb
          obtain ⟨more, hm⟩ := grown cp hcp
          have F0 := tf cp hcp
          rw [F0.emp] at e3
          cases e3
          exact .inr (.inl ⟨(F0.code.tab F0.emp).isCodeTable, rfl, #[], more, rfl, by rw [Array.empty_append]; exact hm⟩)
        · exact .inl (rest b o hb e3)
      · rcases Decidable.em (b ∈ cs.map (·.2)) with hb | hb
        · obtain ⟨cp, hcp, rfl⟩ := List.mem_map.mp hb
          exact (grown cp hcp).elim fun more hm => ⟨_, hm⟩
        · exact ⟨o, rest b o hb e3⟩
  cases hk : K.lookup a with
  | some o =>
    have e1 := inK a o hk
    rw [scr] at e1
    cases e1
    have at_t : ∀ b, b ∉ cs.map (·.2) → (if b ∈ cs.map (·.2) then some (HO.tbl #[]) else none) = none := fun b hb => if_neg hb
    refine main (fun b => if b ∈ cs.map (·.2) then some (.tbl #[]) else none) (fun cp hcp => if_pos (inT cp hcp)) (fun b hb => .inl (at_t b hb)) (.inr ⟨_, us.toArray, _, hk, rfl, rfl, rfl, by rw [List.size_toArray, many]; exact small, by simpa using vals⟩) (fun b u z => ?_) (fun b z => ?_) (fun z => absurd (at_t a scrT) z)
    · rcases Decidable.em (b ∈ cs.map (·.2)) with hb | hb
      · cases (if_pos hb).symm.trans z
        exact tab0 b hb
      · cases (if_neg hb).symm.trans z
    · rcases Decidable.em (b ∈ cs.map (·.2)) with hb | hb
      · exact .inr hb
      · exact absurd (at_t b hb) z
  | none =>
    refine main (fun b => if b = a then some (.frz { cls := .type "list", data := .seq us.toArray } (.lst (ns.map V.int))) else if b ∈ cs.map (·.2) then some (.tbl #[]) else none) (fun cp hcp => ?_) (fun b hb => ?_) (.inl (.inr ⟨_, if_pos rfl⟩)) (fun b u z => ?_) (fun b z => ?_) (fun _ => hk)
    · have na : cp.2 ≠ a := fun z => scrT (by rw [← z]; exact inT cp hcp)
      exact (if_neg na).trans (if_pos (inT cp hcp))
    · rcases Decidable.em (b = a) with ha | ha
      · exact Or.inr ⟨_, _, if_pos ha⟩
      · exact Or.inl ((if_neg ha).trans (if_neg hb))
    · rcases Decidable.em (b = a) with ha | ha
      · subst ha
        cases (if_pos rfl).symm.trans z
        exact ⟨scr, by rw [List.length_map]; exact small, us, _, vals, scr⟩
      · have z1 := (if_neg ha).symm.trans z
        rcases Decidable.em (b ∈ cs.map (·.2)) with hb | hb
        · cases (if_pos hb).symm.trans z1
          exact tab0 b hb
        · cases (if_neg hb).symm.trans z1
    · rcases Decidable.em (b = a) with ha | ha
      · exact .inl ha
      · rcases Decidable.em (b ∈ cs.map (·.2)) with hb | hb
        · exact .inr hb
        · exact absurd ((if_neg ha).trans (if_neg hb)) z
noncomputable def lamTabs (K : PySem.W.Frag) : List (Addr × Addr) := lamDefs.filterMap fun x => lamTab K x
noncomputable def lamOk (K : PySem.W.Frag) : Bool := lamDefs.all fun x => match lamTab K x with
  | some (_, P) => (tabsK K).all (fun p => decide (p.1 = P → p.2 = x ++ ".<locals>." ++ "<lambda>"))
  | none => true
noncomputable def tabOk (K : PySem.W.Frag) (ts : List Addr) : Bool := (lamTabs K).all fun cp => ts.contains cp.2 && ((K.lookup cp.2).isNone && PySem.W.codeHdIn K cp.1 cp.2)
theorem tabF_of {KK : Params → PySem.W.Frag} {as : List Addr} {e : ∀ P, as = (KK P).map (·.1)} {ts : List Addr} {w : World} {h : Heap} (Y : (PySem.W.kmHook KK as e ts).says w h) (hk : tabOk (KK w.params) ts = true) : (KK w.params).In h ∧ ∀ cp ∈ lamTabs (KK w.params), TabF (KK w.params) h cp := by
  have inK := PySem.W.km_in_of Y
  refine ⟨inK, fun cp hcp => ?_⟩
  have z := List.all_eq_true.mp hk cp hcp
  simp only [Bool.and_eq_true] at z
  obtain ⟨z1, z2, z3⟩ := z
  exact ⟨PySem.W.km_tabs_of Y cp.2 (by simpa using z1), by simpa using z2, PySem.W.codeHd_of_K inK z3⟩
theorem tabs_start {H : Hp} (h : ∀ cp ∈ lamTabs K, H cp.2 = some (.tbl #[])) : LamX.Tabs (tabsK K) H := fun p hp => by
  obtain ⟨x, hx, e⟩ := List.mem_filterMap.mp hp
  cases ht : lamTab K x with
  | none => rw [ht] at e; cases e
  | some cp =>
    rw [ht] at e
    cases e
    exact LamX.TabS.nil (h cp (List.mem_filterMap.mpr ⟨x, hx, ht⟩))
theorem walkT {l : PySem.W.OpenLaw} {n k : Nat} {q : Program} {loose : List Str} {XP : (Str → Option Value) → Heap → Prop} {YP : World → Heap → Prop} {d : DefRec} {KK : Params → PySem.W.Frag} {x : Str}
    (hn : l.most = some n) (hn2 : n ≤ sizeLine) (hdf : d.params.defaults = []) (room : Room k callerA) (hY : ∀ (w : World) (h : Heap), YP w h → (KK w.params).In h ∧ ∀ cp ∈ lamTabs (KK w.params), TabF (KK w.params) h cp) (hO : ∀ w : World, lamOk (KK w.params) = true)
    (F : ∀ (w : World) (mg : Str → Option Value) (fa : Addr) (h : Heap), (KK w.params).In h → h.Ns mainGlobals mg → mg d.name = some (.ref fa) →
      ∃ fd : FuncData, (∀ (t : Shared) (u : Value), BindsTo t fd ⟨[u], []⟩ [(x, u)]) ∧ ∀ bs : Heap, (KK w.params).In bs → bs.Ns mainGlobals mg → (∀ y ∈ lamDefs, (lamTab (KK w.params) y).isSome = true → LamB (KK w.params) mg bs y) → FnG l.prog w (KK w.params) mg bs k fa fd [x] (spLawT (KK w.params))) : PySem.W.WalkO q loose XP YP l.row.toRowW d [] (fun f vs => PySem.call f vs) := by
  refine Att.attach_call hn hdf fun w s0 t mg mb fa o pm cd doc a us ns Gd Y ho hd hcd hm hobj hi hlen hg => ?_
  obtain ⟨inK, tf⟩ := hY w _ Y
  have O := List.all_eq_true.mp (hO w)
  obtain ⟨fd, hb, hF⟩ := F w mg fa _ inK Gd.T.g hm
  refine callT (cs := lamTabs (KK w.params)) inK Gd.T.g Gd.T.b Gd.T.builtins Gd.T.nolimit hg tf Gd.T.bmain hobj hi (Nat.le_trans hlen hn2) room (fun bs i1 i2 tb => hF bs i1 i2 fun y hy hs => ?_) hb fun G tabs seq => ⟨a, ns, rfl, seq, tabs_start tabs, fun _ => rfl⟩
  cases ht : lamTab (KK w.params) y with
  | none => rw [ht] at hs; cases hs
  | some cp =>
    obtain ⟨c, Pt⟩ := cp
    have z := O y hy
    rw [ht] at z
    refine ⟨c, Pt, ht, tb _ (List.mem_filterMap.mpr ⟨y, hy, ht⟩), hy, fun p hp hpe => ?_⟩
    have z3 := List.all_eq_true.mp z p hp
    exact of_decide_eq_true z3 hpe
end
end J
namespace J
open PySem PySem.Spec
open PyProof.Rows L2
section
variable {w : World} {P : Program} {K : PySem.W.Frag} {base : Heap} {mg : Str → Option Value} {C R : Addr}
theorem scRW : FnScope ["self"] ["self"] (defScope sRowWords) := ⟨rfl, rfl, rfl, by decide +kernel, rfl, by decide +kernel, by decide +kernel⟩
theorem okRW {f : Addr} {fd : FuncData} (F : Fun K "words" "Row.words" sRowWords f fd) (B : KlR K R) : FnOk P w K mg base CX0 1 f fd ["self"] (SpV K ["self"] (cnFld R "held")) := by
  refine fn_mk F scRW (by decide) (fun rs μ r μ' h => by obtain ⟨_, _, rfl, _, _, rfl⟩ := h; exact ⟨rfl, rfl⟩) fun cdv A outer s H E hr rs μ r μ' hC => ?_
  obtain ⟨fs, d, rfl, hl, rfl, rfl⟩ := hC
  exact ST.retP (EV.fld (nm 0) B.cl B.a4 hl) rfl
end
end J
namespace J
open PySem PySem.Spec
open PyProof.Rows L2
theorem LCV.out {X : Cx} {elt tg iter : Expr} {ifs : List Expr} {scope : Scope} {own : List (Str × Nat)} {ρ : REnv} {μ μ1 : Sto} {out out2 : List PyData} (h : LCV X elt tg iter ifs scope own ρ μ out μ1) (q2 : out = out2) : LCV X elt tg iter ifs scope own ρ μ out2 μ1 := q2 ▸ h
theorem int_beq (a b : Int) : (a == b) = decide (a = b) := by
  by_cases h : a = b
  · rw [decide_eq_true h]; exact beq_iff_eq.mpr h
  · rw [decide_eq_false h]; exact beq_eq_false_iff_ne.mpr h
noncomputable def nameQ : PyData → PyData
  | .tuple (x :: _) => x
  | _ => .none
theorem sho_int {n : Nat} (h : n < 100) : Sho (.int (n : Int)) := by
  have key : ∀ i : _root_.Fin 100, (toString (i.val : Int)).length ≤ 3 ∧ rlen (.int (i.val : Int)) ≤ 10000000 := by decide +kernel
  have hl : (n : Int).natAbs.log2 < 1920 := log_small (by omega)
  exact ⟨rfl, by simp only [PyData.showable]; exact decide_eq_true hl, by simp [PyData.depth], (key ⟨n, h⟩).2, fun j z => by cases z; exact hl⟩
theorem pair_fine {a b : Str} (ha : PyData.strOk a = true) (hb : PyData.strOk b = true) : SeqAt.shaped (.list [.str a, .str b]) = true ∧ PyData.eqv (.list [.str a, .str b]) (.list [.str a, .str b]) = true := by
  have hy : ∀ y ∈ [a, b], PyData.strOk y = true := fun y hy => by
    simp only [List.mem_cons, List.not_mem_nil, or_false] at hy
    rcases hy with rfl | rfl <;> assumption
  exact ⟨N.shaped_strs (ys := [a, b]) hy, N.eqv_strs [a, b] hy⟩
section
variable {w : World} {P : Program} {K : PySem.W.Frag} {base : Heap} {mg : Str → Option Value} {C R Ce Cn Cu c1 c2 c3 : Addr}
structure Bk22 (P : Program) (w : World) (K : PySem.W.Frag) (mg : Str → Option Value) (base : Heap) (C R Ce Cn Cu : Addr) : Prop where
  kl : Kl K C
  mak : Mak P w K mg base "Book" C "kept" 8 ["self", "plans"] M.Good
  str : Own P w K mg base C "__str__" 2 (cnStr C)
  rep : OwnR P w K mg base C
  ic : C8.InsC K C
  no : NoTs K C
  kS : PySem.W.kitOne K (.ref C) (.type "str") = some false
  bk : mg "Book" = some (.ref C)
  row : MakFX P w K mg base "Row" R 6 ["self", "book", "name", "pieces"] (conRowA C Ce Cn Cu)
  klR : KlR K R
  words : Prp P w K mg base R "words" 1 (cnFld R "held")
structure Sh22 (P : Program) (w : World) (K : PySem.W.Frag) (mg : Str → Option Value) (base : Heap) (d : PyData) (t : Str) : Prop where
  sh : ShoO P w K mg base d t
  ok : PyData.strOk t = true
theorem sh22_sm {a b : Nat} {d : PyData} (h : N.Sm2 a b d) (ha : a ≤ 60) (hb : b ≤ 10000000) : Sh22 P w K mg base d d.shown := ⟨.dat (.inr (h.sho ha hb)), N.okS_iff.mp (N.okS_shown2 _ h.lay)⟩
theorem book_ok {ps : List PyData} (G : M.Good ps) : PyData.strOk (M.bookShown ps) = true ∧ PyData.strOk (listText [M.bookShown ps]) = true ∧ PyData.strOk (tupleText [M.bookShown ps]) = true ∧ N.Lo (M.bookShown ps) ∧ (M.bookShown ps).length ≤ 1000 := by
  have lit : ∀ m : _root_.Fin 5, (PyData.strOk (catS Str.empty ["Book of ", M.strI ((m.val : Nat) : Int), " plans"]) = true ∧ PyData.strOk (listText [catS Str.empty ["Book of ", M.strI ((m.val : Nat) : Int), " plans"]]) = true ∧ PyData.strOk (tupleText [catS Str.empty ["Book of ", M.strI ((m.val : Nat) : Int), " plans"]]) = true) ∧ (catS Str.empty ["Book of ", M.strI ((m.val : Nat) : Int), " plans"]).cps.toList.all (fun c => decide (c < 256)) = true ∧ (catS Str.empty ["Book of ", M.strI ((m.val : Nat) : Int), " plans"]).length ≤ 1000 := by decide +kernel
  have h4 := G.le4
  obtain ⟨⟨a, b, c⟩, d, e⟩ := lit ⟨ps.length, by omega⟩
  refine ⟨a, b, c, fun x hx => ?_, e⟩
  have := List.all_eq_true.mp d x hx
  simpa using this
noncomputable def Od22 (P : Program) (w : World) (K : PySem.W.Frag) (mg : Str → Option Value) (base : Heap) (d : PyData) : Prop := isObj d = false ∧ ∃ t, Sh22 P w K mg base d t
theorem one22_ok {tags : List Str} {ms : List G.Mate} (h : N.MatesGood tags ms) (hR : OwnR P w K mg base C) : ∀ d ∈ G.one22 tags (ms.map G.told) (G.textOf ms) (obD C [("kept", .tuple (ms.map G.told))]) (M.bookShown (ms.map G.told)), Od22 P w K mg base d := fun d hd => by
  obtain ⟨loT, lnT⟩ := N.text_small h
  have hG := N.told_good h
  obtain ⟨k1, k2, k3, k4, k5⟩ := book_ok hG
  have hl := h.l14
  have n0 := h.names _ (N.name_in (tags := tags) (i := 0) (by omega))
  have sq : ∀ {d : PyData}, Sho d → d.canLay0 = true → Sh22 P w K mg base d d.shown := fun hd hc => ⟨.dat (.inl hd), N.okS_iff.mp (N.okS_shown _ hc)⟩
  have sl := (N.Sm.list (n := 4) (N.sm_tolds h) (by rw [List.length_map, h.len]; exact h.l14.2)).shwD rfl (by decide) (by decide)
  have st := (N.sm_plans h).shwD rfl (by decide) (by decide)
  unfold G.one22 at hd
  simp only [List.mem_cons, List.not_mem_nil, or_false] at hd
  rcases hd with rfl | rfl | rfl | rfl | rfl | rfl | rfl | rfl | rfl | rfl | rfl
  · exact ⟨rfl, _, sh22_sm (a := 0) (b := 10) (N.sm_c (by decide +kernel)) (by decide) (by decide)⟩
  · exact ⟨rfl, _, sh22_sm (a := 0) (b := 10) (N.sm_c (by decide +kernel)) (by decide) (by decide)⟩
  · exact ⟨rfl, _, sh22_sm (a := 0) (b := 10) (N.sm_c (by decide +kernel)) (by decide) (by decide)⟩
  · exact ⟨rfl, _, sh22_sm (N.Sm2.str loT lnT) (by decide) (by decide)⟩
  · exact ⟨rfl, _, sq st.sho st.lay⟩
  · exact ⟨rfl, _, sq sl.sho sl.lay⟩
  · exact ⟨rfl, _, sh22_sm (a := 2) (b := 10) (N.sm_c (by decide +kernel)) (by decide) (by decide)⟩
  · exact ⟨rfl, _, sh22_sm (N.Sm2.str (N.lo_name n0) (M.name_signs n0).2.1) (by decide) (by decide)⟩
  · exact ⟨rfl, _, .lst1 hG hR, k2⟩
  · exact ⟨rfl, _, .tup1 hG hR, k3⟩
  · exact ⟨rfl, _, sh22_sm (N.Sm2.str k4 k5) (by decide) (by decide)⟩
noncomputable def Wh22 (P : Program) (w : World) (K : PySem.W.Frag) (mg : Str → Option Value) (base : Heap) (bk d : PyData) : Prop := (isObj d = false ∨ d = bk) ∧ ∃ t, Sh22 P w K mg base d t
theorem two22_ok {tags : List Str} {ms : List G.Mate} (h : N.MatesGood tags ms) (hR : OwnR P w K mg base C) {x : G.Mate} (hx : N.MateGood tags 0 x) : ∀ d ∈ G.two22 tags (obD C [("kept", .tuple (ms.map G.told))]) (G.aim x.goal), Wh22 P w K mg base (obD C [("kept", .tuple (ms.map G.told))]) d := fun d hd => by
  have hG := N.told_good h
  obtain ⟨k1, k2, k3, k4, k5⟩ := book_ok hG
  have hl := h.l14
  have n0 := h.names _ (N.name_in (tags := tags) (i := 0) (by omega))
  have ok := N.mate_shape hx h.names
  have lit : ∀ {d : PyData}, isObj d = false → N.smC 2 200 d = true → Wh22 P w K mg base (obD C [("kept", .tuple (ms.map G.told))]) d := fun ho hd => ⟨.inl ho, _, sh22_sm (N.sm_c hd) (by decide) (by decide)⟩
  unfold G.two22 at hd
  simp only [List.mem_cons, List.not_mem_nil, or_false] at hd
  rcases hd with rfl | rfl | rfl | rfl | rfl | rfl | rfl | rfl | rfl | rfl | rfl | rfl | rfl
  iterate 9 exact lit rfl (by decide +kernel)
  · refine ⟨.inl rfl, _, sh22_sm (N.Sm2.str (n := 9) (N.lo_app (N.lo_name n0) (N.lo_by3 (by decide +kernel))) ?_) (by decide) (by decide)⟩
    have := (M.name_signs n0).2.1
    have e1 : ((("0" : String) : Str)).length = 1 := by decide +kernel
    rw [strLen_append]
    omega
  · refine ⟨.inl rfl, _, sh22_sm (N.Sm2.list (a := 0) (b := 82) (n := 4) (fun y hy => ?_) (by rw [List.length_map]; exact hl.2)) (by decide) (by decide)⟩
    obtain ⟨s, hs, rfl⟩ := List.mem_map.mp hy
    exact N.Sm2.str (N.lo_name (h.names s hs)) (M.name_signs (h.names s hs)).2.1
  · exact ⟨.inr rfl, _, .book hG hR, k1⟩
  · exact ⟨.inl rfl, _, sh22_sm (N.Sm2.str (N.lo_goal hx.goal.1) (aim_len ok)) (by decide) (by decide)⟩
theorem ini_bad22 {ps tx : List PyData} {n : Str} {g : Str × Int} {b : Int} {d i : PyData} (h : GR.wrongP d = some i) : rowIni C Ce ps n g b tx d = .error (Ce, [("index", i)]) := by
  unfold rowIni
  rw [h]
theorem ini_good22 {ps tx : List PyData} {n : Str} {g : Str × Int} {b : Int} {ds : List PyData} (h : GR.wrongP (.tuple ds) = none) : ∃ dl wh, rowIni C Ce ps n g b tx (.tuple ds) = .ok (rowD C ps n ds ds 0 dl wh) := by
  unfold rowIni
  rw [h]
  exact ⟨_, _, rfl⟩
end
end J
namespace N
open PySem J L2
theorem lo_piece22 {s : Str} (h : GR.Piece s) : Lo s := fun c hc => by
  have hm := h.abc c hc
  have : ∀ c ∈ M.letters.cps.toList, c < 256 := by decide +kernel
  exact this c hm
end N
namespace J
open PySem PySem.Spec
open PyProof.Rows L2
section
variable {w : World} {P : Program} {K : PySem.W.Frag} {base : Heap} {mg : Str → Option Value} {C R Ce Cn Cu c1 c2 c3 : Addr}
noncomputable abbrev nAs : List Str := ["_law_purse_here", "_law_told_here", "_law_mine", "_law_tags_here", "_law_odd", "_law_what", "_law_who", "_law_row_here", "_law_way", "_law_back", "_law_mate"]
theorem scAs : FnScope nAs ["_law_purse_here", "_law_told_here", "_law_mine"] (defScope sLAsked) := ⟨rfl, rfl, rfl, by decide +kernel, rfl, by decide +kernel, by decide +kernel⟩
noncomputable def aim22 (ms : List G.Mate) : Str := match ms with
  | x :: _ => G.aim x.goal
  | [] => Str.empty
noncomputable def nxt22 (C : Addr) (tags : List Str) (ms : List G.Mate) : G.Pu → G.Pu := G.ask22 (G.one22 tags (ms.map G.told) (G.textOf ms) (obD C [("kept", .tuple (ms.map G.told))]) (M.bookShown (ms.map G.told))) (obD C [("kept", .tuple (ms.map G.told))]) (G.two22 tags (obD C [("kept", .tuple (ms.map G.told))]) (aim22 ms)) (tags.map .str)
theorem nxt22_ok {C : Addr} {tags : List Str} {ms : List G.Mate} {p : G.Pu} (h : p.ok) (hg : N.MatesGood tags ms) : (nxt22 C tags ms p).ok := by
  have hl := hg.l14
  refine (N.ask22_ok h ?_ ?_ ?_).1
  · unfold G.one22; simp
  · unfold G.two22; simp
  · intro z
    have e := congrArg List.length z
    rw [List.length_map] at e
    exact absurd e (by show ¬ tags.length = 0; omega)
noncomputable def cnAs (C : Addr) : Con := fun rs μ r μ' => ∃ (k : Nat) (p : G.Pu) (tags : List Str) (ms : List G.Mate), rs = [.ptr k, Tp (ms.map G.told), bookE C (ms.map G.told)] ∧ (μ[k]? = some p.ds ∧ p.ok ∧ N.MatesGood tags ms ∧ ∀ x ∈ ms, GL.Gg x.goal) ∧ r = Bb true ∧ μ' = μ.set k (nxt22 C tags ms p).ds
theorem cAs (T : Bt mg) (C1 : CDraw P w K mg base) (Cp : CPick P w K mg base) (C4 : Cal P w K mg base "_law_pieces" 3 ["_law_purse_here", "_law_most"] cnPs)
    (Y : CauO P w K mg base c1 c2 c3) (B : Bk22 P w K mg base C R Ce Cn Cu) (En : ErrC K mg Cn 4 "given") (hmn : PySem.W.exmAny K (.ref Cn) [.ref c1, .ref c2, .ref c3] = some true) (Eu : ErrC K mg Cu 7 "given") (hmu : PySem.W.exmAny K (.ref Cu) [.ref c1, .ref c2, .ref c3] = some true) (Ee : ErrC K mg Ce 6 "index") (hme : PySem.W.exmAny K (.ref Ce) [.ref c1, .ref c2, .ref c3] = some true)
    (inB : K.In base) (nsB : base.Ns mainGlobals mg) (L : LamB K mg base "_law_asked") (D : Df K mg "_law_asked" sLAsked) : CalG P w K mg base "_law_asked" 12 ["_law_purse_here", "_law_told_here", "_law_mine"] (cnAs C) := by
  refine D.calGL inB nsB L scAs (fun _ _ _ _ _ _ us hl => len3 us hl fun _ _ _ => rfl) (by decide) fun f cdv A outer s0 H Ex hL hgd hr rs μ r μ' hC => ?_
  obtain ⟨k, p, tags, ms, rfl, ⟨hk, hp, hg, hgg⟩, rfl, rfl⟩ := hC
  have hu : (cxOf CX0 P w K mg base nAs "_law_asked" (defScope sLAsked) f cdv A outer s0 H Ex).nox.A.units + 100 < PySem.cLine := Nat.lt_of_le_of_lt (Nat.add_le_add_left (show 100 ≤ 16 * 11 + 200 by decide) _) hr.un
  have kq : ∀ q : G.Pu, (μ.set k q.ds)[k]? = some q.ds := fun q => at_set (es := q.ds) hk
  have hn := hg.names
  have hl14 := hg.l14
  have hml := hg.len
  have hG := N.told_good hg
  have hnm := N.names_eq hg
  obtain ⟨x0, ms', rfl⟩ : ∃ x0 ms', ms = x0 :: ms' := by
    cases ms with
    | nil =>
      simp at hml
      omega
    | cons a l => exact ⟨a, l, rfl⟩
  have gx0 := hg.each 0 x0 rfl
  have htl : ((x0 :: ms').map G.told).map (fun d => nameQ d) = tags.map PyData.str := by
    rw [← hnm, List.map_map, List.map_map, List.map_map]
    rfl
  have tag0 : (tags.map PyData.str)[0]? = some (.str (G.tg22 tags 0)) := by
    unfold G.tg22
    rw [List.getElem?_map, List.getD_eq_getElem?_getD, List.getElem?_eq_getElem (by omega)]
    rfl
  have l0 : (G.tg22 tags 0).length ≤ 8 := (M.name_signs (hn _ (N.name_in (i := 0) (by omega)))).2.1
  have ht0 : ((x0 :: ms').map G.told)[0]? = some (.tuple [.str x0.tag, .str (G.aim x0.goal), .int x0.base, .tuple (x0.rounds.map fun r => .str (G.line r))]) := rfl
  obtain ⟨told, etd⟩ : ∃ told, told = (x0 :: ms').map G.told := ⟨_, rfl⟩
  have hone := one22_ok hg B.rep
  have htwo := two22_ok hg B.rep gx0
  have hnx : nxt22 C tags (x0 :: ms') p = G.ask22 (G.one22 tags told (G.textOf (x0 :: ms')) (obD C [("kept", .tuple told)]) (M.bookShown told)) (obD C [("kept", .tuple told)]) (G.two22 tags (obD C [("kept", .tuple told)]) (G.aim x0.goal)) (tags.map .str) p := by
    rw [etd]
    rfl
  rw [hnx]
  rw [← etd] at hG hnm htl ht0 hone htwo ⊢
  obtain ⟨_, hwa, hwo, hhu, hho⟩ := N.ask22_ok (o1 := G.one22 tags told (G.textOf (x0 :: ms')) (obD C [("kept", .tuple told)]) (M.bookShown told)) (bk := obD C [("kept", .tuple told)]) (o2 := G.two22 tags (obD C [("kept", .tuple told)]) (G.aim x0.goal)) (tg := tags.map .str) hp (by unfold G.one22; simp) (by unfold G.two22; simp) (fun z => by
    have e := congrArg List.length z
    rw [List.length_map] at e
    exact absurd e (by show ¬ tags.length = 0; omega))
  refine ST.lc (i := 3) (x := "_law_tags_here") (out := tags.map .str) (own := [("_law_mate", 10)]) (LCV.out (LCV.map nameQ (IV.tup (nm 1)) (fun d hd => ?_) (by rw [etd, List.length_map]; omega)) htl) rfl scAs.nd rfl rfl (blkOk_by (N := nAs) (sc := defScope sLAsked) (by decide +kernel)) ?_ rfl
  · rw [etd] at hd
    obtain ⟨x, _, rfl⟩ := List.mem_map.mp hd
    exact ⟨_, fun _ _ _ _ _ => GV.name (i := 10) scAs.nd rfl (Or.inl rfl) (by simp), fun _ _ _ _ _ => ixT (nm 10) EV.int (at_nat (i := 0) rfl)⟩
  refine ST.envK (ρ' := [some (.ptr k), some (Tp told), some (bookE C told), some (Ls (tags.map .str)), none, none, none, none, none, none, none]) rfl ?_
  refine ST.set (i := 4) (r := Ls (G.one22 tags told (G.textOf (x0 :: ms')) (obD C [("kept", .tuple told)]) (M.bookShown told))) (μ1 := μ) (EVF.lst (ds := G.one22 tags told (G.textOf (x0 :: ms')) (obD C [("kept", .tuple told)]) (M.bookShown told)) (AV.cons EV.non (AV.cons EV.int (AV.cons EV.bl (AV.cons (EV.strO T.str (nm 2) B.str (hr.mono (by decide)) ⟨told, rfl, hG, congrArg Ss (by rw [etd]; exact (N.text_eq (x0 :: ms')).symm), rfl⟩) (AV.cons (nm 1) (AV.cons (bLstT T (nm 1)) (AV.cons EV.dict0 (AV.cons (ixL (nm 3) EV.int (at_nat (i := 0) tag0)) (AV.cons (EVF.lst (ds := [obD C [("kept", .tuple told)]]) (AV.cons (EV.obd (nm 2)) AV.nil)).ev (AV.cons (EV.tup (ds := [obD C [("kept", .tuple told)]]) (AV.cons (EV.obd (nm 2)) AV.nil)) (AV.cons (EV.reprO Y.rep (nm 2) B.rep.o (hr.mono (by decide)) ⟨_, rfl, hG, rfl, rfl⟩) AV.nil)))))))))))).ev scAs.nd rfl (by first | exact Or.inl rfl | exact Or.inr rfl) ?_
  refine ST.envK (ρ' := [some (.ptr k), some (Tp told), some (bookE C told), some (Ls (tags.map .str)), some (Ls (G.one22 tags told (G.textOf (x0 :: ms')) (obD C [("kept", .tuple told)]) (M.bookShown told))), none, none, none, none, none, none]) rfl ?_
  obtain ⟨bk, hbk⟩ : ∃ bk, bk = obD C [("kept", .tuple told)] := ⟨_, rfl⟩
  obtain ⟨O1, eO1⟩ : ∃ O1, O1 = G.one22 tags told (G.textOf (x0 :: ms')) (obD C [("kept", .tuple told)]) (M.bookShown told) := ⟨_, rfl⟩
  obtain ⟨O2, eO2⟩ : ∃ O2, O2 = G.two22 tags (obD C [("kept", .tuple told)]) (G.aim x0.goal) := ⟨_, rfl⟩
  have lO1 : O1.length = 11 := by rw [eO1]; rfl
  have lO2 : O2.length = 13 := by rw [eO2]; rfl
  rw [← eO1] at hone hwa hwo hhu hho ⊢
  rw [← eO2] at htwo hhu hho ⊢
  rw [← hbk] at htwo hwa hwo hhu hho ⊢
  unfold G.ask22
  obtain ⟨_, _, hv1⟩ := G.draw_ok (m := 4) hp (by decide)
  refine ST.set (i := 5) (r := .dat (G.what22 O1 bk p).1) (μ1 := μ.set k (G.what22 O1 bk p).2.ds) (EV.ifx (k := decide ((G.draw 4 p).1 = 0)) (μ1 := μ.set k (G.draw 4 p).2.ds) (TV.eq (tEq (d := .int (G.draw 4 p).1) (d2 := .int 0) (EV.draw C1 hr (nm 0) EV.int hk hp) EV.int) (by show ((G.draw 4 p).1 == 0) = _; exact int_beq _ _)) (fun hz => ?_) (fun hz => ?_)) scAs.nd rfl (by first | exact Or.inl rfl | exact Or.inr rfl) ?_
  · have e : G.what22 O1 bk p = G.pick .none O1 (G.draw 4 p).2 := by
      unfold G.what22
      rw [if_pos (of_decide_eq_true hz)]
    rw [e]
    exact EV.st (EV.call Cp (hr.mono (by decide)) (AV.cons (nm 0) (AV.cons (nm 4) AV.nil)) ⟨k, (G.draw 4 p).2, _, O1, rfl, ⟨kq _, hv1, .inl rfl, by omega, by omega⟩, rfl, rfl⟩) sset
  · have e : G.what22 O1 bk p = (bk, (G.draw 4 p).2) := by
      unfold G.what22
      rw [if_neg (of_decide_eq_false hz)]
    rw [e, hbk]
    exact EV.obd (nm 2)
  generalize G.what22 O1 bk p = wt at *
  obtain ⟨what, p1⟩ := wt
  dsimp only at hwa hwo hhu hho ⊢
  refine ST.set (i := 4) (r := Ls O2) (μ1 := μ.set k p1.ds) (EV.eq (EVF.lst (ds := G.two22 tags (obD C [("kept", .tuple told)]) (G.aim x0.goal)) (AV.cons EV.non (AV.cons EV.int (AV.cons EV.bl (AV.cons EV.str (AV.cons EV.str (AV.cons EV.str (AV.cons (EVF.lst (ds := []) AV.nil).ev (AV.cons EV.dict0 (AV.cons (EV.tup (ds := [.str "a"]) (AV.cons EV.str AV.nil)) (AV.cons (oAddS (s := G.tg22 tags 0) (ixL (nm 3) EV.int (at_nat (i := 0) tag0)) EV.str (sz (by have e1 : ((("0" : String) : Str)).length = 1 := (by decide +kernel); omega))) (AV.cons (nm 3) (AV.cons (EV.obd (nm 2)) (AV.cons (ixT (ixT (nm 1) EV.int (at_nat (i := 0) ht0)) EV.int (at_nat (i := 1) rfl)) AV.nil)))))))))))))).ev (congrArg Ls eO2.symm)) scAs.nd rfl (by first | exact Or.inl rfl | exact Or.inr rfl) ?_
  refine ST.envK (ρ' := [some (.ptr k), some (Tp told), some (bookE C told), some (Ls (tags.map .str)), some (Ls O2), some (.dat what), none, none, none, none, none]) rfl ?_
  obtain ⟨_, _, hv2⟩ := G.draw_ok (m := 3) hwo (by decide)
  have ltg : (tags.map PyData.str).length = tags.length := List.length_map ..
  refine ST.set (i := 6) (r := .dat (G.who22 O2 (tags.map .str) p1).1) (μ1 := μ.set k (G.who22 O2 (tags.map .str) p1).2.ds) (EV.ifx (k := decide ((G.draw 3 p1).1 = 0)) (μ1 := μ.set k (G.draw 3 p1).2.ds) (TV.eq (tEq (d := .int (G.draw 3 p1).1) (d2 := .int 0) (EV.st (EV.draw C1 hr (nm 0) EV.int (kq _) hwo) sset) EV.int) (by show ((G.draw 3 p1).1 == 0) = _; exact int_beq _ _)) (fun hz => ?_) (fun hz => ?_)) scAs.nd rfl (by first | exact Or.inl rfl | exact Or.inr rfl) ?_
  · have e : G.who22 O2 (tags.map .str) p1 = G.pick .none O2 (G.draw 3 p1).2 := by
      unfold G.who22
      rw [if_pos (of_decide_eq_true hz)]
    rw [e]
    exact EV.st (EV.call Cp (hr.mono (by decide)) (AV.cons (nm 0) (AV.cons (nm 4) AV.nil)) ⟨k, (G.draw 3 p1).2, _, O2, rfl, ⟨kq _, hv2, .inl rfl, by omega, by omega⟩, rfl, rfl⟩) sset
  · have e : G.who22 O2 (tags.map .str) p1 = G.pick .none (tags.map .str) (G.draw 3 p1).2 := by
      unfold G.who22
      rw [if_neg (of_decide_eq_false hz)]
    rw [e]
    exact EV.st (EV.call Cp (hr.mono (by decide)) (AV.cons (nm 0) (AV.cons (nm 3) AV.nil)) ⟨k, (G.draw 3 p1).2, _, tags.map .str, rfl, ⟨kq _, hv2, .inl rfl, by omega, by omega⟩, rfl, rfl⟩) sset
  generalize G.who22 O2 (tags.map .str) p1 = wt at *
  obtain ⟨who, p2⟩ := wt
  dsimp only at hhu hho ⊢
  obtain ⟨hpc, hv3, hw1, hw6⟩ := G.pieces_ok (most := 6) hho (by decide)
  refine ST.set (i := 7) (r := Tp ((G.pieces 6 p2).1.map .str)) (μ1 := μ.set k (G.pieces 6 p2).2.ds) (EV.st (EV.call C4 (hr.mono (by decide)) (AV.cons (nm 0) (AV.cons EV.int AV.nil)) ⟨k, p2, 6, rfl, ⟨kq _, hho, by decide, by decide⟩, rfl, rfl⟩) sset) scAs.nd rfl (by first | exact Or.inl rfl | exact Or.inr rfl) ?_
  generalize G.pieces 6 p2 = wt at *
  obtain ⟨ws, p3⟩ := wt
  dsimp only at hpc hv3 hw1 hw6 ⊢
  obtain ⟨g0, g8, hv4⟩ := G.draw_ok (m := 8) hv3 (by decide)
  obtain ⟨way, eway⟩ : ∃ n : Nat, (G.draw 8 p3).1 = (n : Int) := ⟨(G.draw 8 p3).1.toNat, by omega⟩
  refine ST.set (i := 8) (r := Ii (way : Int)) (μ1 := μ.set k (G.draw 8 p3).2.ds) (EV.st (EV.eq (EV.draw C1 hr (nm 0) EV.int (kq _) hv3) (congrArg Ii eway)) sset) scAs.nd rfl (by first | exact Or.inl rfl | exact Or.inr rfl) ?_
  generalize (G.draw 8 p3).2 = p4 at *
  clear eway g0 g8
  have hw6' : ws.length ≤ 6 := by omega
  have lws : (ws.map PyData.str).length = ws.length := List.length_map ..
  refine ST.iffM (k := decide (way < 5)) (μ1 := μ.set k p4.ds) [some (.ptr k), some (Tp told), some (bookE C told), some (Ls (tags.map .str)), some (Ls O2), some (.dat what), some (.dat who), some (.dat (G.row22 (ws.map .str) way)), some (Ii (way : Int)), none, none] (μ.set k p4.ds) (TV.eq (tLt (nm 8) EV.int) (decide_eq_decide.mpr (by omega))) (fun hz => ?_) (fun hz => ?_) ?_
  · have hz' := of_decide_eq_true hz
    have hget : (G.rows22 (ws.map .str))[way]? = some (G.row22 (ws.map .str) way) := by
      unfold G.row22
      rw [List.getD_eq_getElem?_getD, List.getElem?_eq_getElem (show way < (G.rows22 (ws.map .str)).length from hz')]
      rfl
    exact ST.set (i := 7) (r := .dat (G.row22 (ws.map .str) way)) (ixL (EVF.lst (ds := G.rows22 (ws.map .str)) (AV.cons (EV.tup (ds := []) AV.nil) (AV.cons (EV.tup (ds := [.str "a", .str "b", .str ""]) (AV.cons EV.str (AV.cons EV.str (AV.cons EV.str AV.nil)))) (AV.cons (EVF.lst (ds := []) AV.nil).ev (AV.cons (oCatT (EV.tup (ds := [.int 1]) (AV.cons EV.int AV.nil)) (nm 7) (sz (by simp only [List.length_cons, List.length_nil]; omega))) (AV.cons (oCatT (nm 7) (EV.tup (ds := [.str "B", .none]) (AV.cons EV.str (AV.cons EV.non AV.nil))) (sz (by simp only [List.length_cons, List.length_nil]; omega))) AV.nil)))))).ev (nm 8) (at_nat hget)) scAs.nd rfl (by first | exact Or.inl rfl | exact Or.inr rfl) (ST.nil ⟨rfl, rfl⟩)
  · rw [N.row_same (of_decide_eq_false hz)]
    exact ST.nil ⟨rfl, rfl⟩
  have tks : ∀ {c : List PyData}, (μ.set k c).take μ.length = μ.set k c := fun {c} => by rw [List.take_of_length_le (by rw [List.length_set]; exact Nat.le_refl _)]
  have hrow : ∀ {ν : Sto}, pcsOk C ν (.dat (G.row22 (ws.map .str) way)) (G.row22 (ws.map .str) way) := fun {ν} => N.row_data hpc way
  have eqT : ∀ (b : Bool), b = true → Bb b = Bb true := fun b h => by rw [h]
  by_cases hb : what = bk
  · rw [hb] at hwa ⊢
    have kn : ∀ {Z : Prop}, ((isObj who = false ∨ who = bk) → (∃ t, Sh22 P w K mg base who t) → Z) → Z := fun {Z} h => by
      rcases hhu with z | z
      · obtain ⟨s, hs, rfl⟩ := List.mem_map.mp z
        exact h (.inl rfl) ⟨_, sh22_sm (N.Sm2.str (N.lo_name (hn s hs)) (M.name_signs (hn s hs)).2.1) (by decide) (by decide)⟩
      · obtain ⟨h1, h2⟩ := htwo who z
        exact h h1 h2
    refine kn fun hob hsh => ?_
    obtain ⟨tw, hsw⟩ := hsh
    cases hf : M.findN tags who with
    | none =>
      obtain ⟨hsh, heq⟩ := pair_fine (a := "UnknownPlan") (b := tw) (by decide +kernel) hsw.ok
      refine ST.set (i := 9) (r := Ls [.str "UnknownPlan", .str tw]) (μ1 := μ.set k p4.ds) (EV.caughtPropO (k := 9) (R := R) (xs := [.str "UnknownPlan", .str tw]) (d := G.row22 (ws.map .str) way) (oo := .error (Cu, [("given", who)])) Y B.klR.cl B.words hL rfl rfl hgd hr (by decide) (by decide) (CaughtO.err Eu hsw.sh hmu) (fun fs e => by cases e) (fun A2 outer2 s2 H2 Ex2 f2 c2' hr2 => EVR.makeF B.row (takesN (takes_of rfl rfl rfl rfl)) (hr2.mono (by decide)) (AV.cons (nm 5) (AV.cons (nm 6) (AV.cons (nm 7) AV.nil))) (by rw [hbk]; exact .inr (.inl ⟨told, who, _, rfl, hG, hob.imp id (fun z => ⟨_, z.trans hbk⟩), by rw [hnm]; exact hf, rfl⟩))) (hL := (show LamX.lamSB (defScope sLAsked) _ = true by decide +kernel))) scAs.nd rfl (by first | exact Or.inl rfl | exact Or.inr rfl) ?_
      refine ST.envK (ρ' := [some (.ptr k), some (Tp told), some (bookE C told), some (Ls (tags.map .str)), some (Ls O2), some (.dat bk), some (.dat who), some (.dat (G.row22 (ws.map .str) way)), some (Ii (way : Int)), some (Ls [.str "UnknownPlan", .str tw]), none]) rfl ?_
      refine ST.ifNo (k := false) (TV.not (TV.val (EV.isC B.ic T.isinstance B.bk (EV.dob (C := C) (fs := [("kept", .tuple told)]) (by rw [← hbk]; exact nm 5))))) rfl ?_
      refine ST.ifYes (k := true) (μ1 := μ.set k p4.ds) ?_ rfl ?_
      · rcases hob with ho | rfl
        · cases hds : isStrL who with
          | false => exact WV.tv (WV.orT (TV.not (TV.val (isI T (nm 6) (kit_str who) (by decide +kernel) T.str))) (by rw [hds]; rfl))
          | true =>
            obtain ⟨s, rfl⟩ : ∃ s, who = .str s := by cases who <;> first | exact ⟨_, rfl⟩ | cases hds
            exact WV.tv (WV.orF (TV.not (TV.val (isI T (nm 6) (kit_str _) (by decide +kernel) T.str))) (WV.or1 (TV.eq (tNiL (nm 6) (nm 3) rfl (strs_flat _)) (by rw [inD_strs, decide_eq_false (M.findN_none hf)]; rfl))))
        · exact WV.tv (WV.orT (TV.not (TV.val (EV.isO (b := false) B.ic B.kS T.isinstance T.str (by decide +kernel) (EV.dob (C := C) (fs := [("kept", .tuple told)]) (by rw [← hbk]; exact nm 6))))) rfl)
      · exact ST.retP (r' := Bb true) (EV.eq (cEqD (by omega) (nm 9) (EVF.lst (ds := [.str "UnknownPlan", .str tw]) (AV.cons EV.str (AV.cons (EV.reprAny Y.rep hgd (hr.mono (by decide)) (nm 6) hsw.sh) AV.nil))).ev hsh hsh) (eqT _ heq)) rfl tks
    | some j =>
      obtain ⟨n, rfl, hj⟩ := M.findN_some hf
      have hjl := (List.getElem?_eq_some_iff.mp hj).1
      obtain ⟨x, ex⟩ : ∃ x, (x0 :: ms')[j]? = some x := ⟨(x0 :: ms')[j]'(by omega), List.getElem?_eq_getElem (by omega)⟩
      have gx := hg.each j x ex
      have etag : x.tag = n := by
        have h1 := gx.tag
        rw [hj] at h1
        exact (Option.some.inj h1).symm
      have hpx : told[j]? = some (.tuple [.str n, .str (G.aim x.goal), .int x.base, .tuple (x.rounds.map fun r => .str (G.line r))]) := by
        rw [etd, List.getElem?_map, ex, ← etag]
        rfl
      have hcon : ∀ {μ9 : Sto}, conRowA C Ce Cn Cu [.dat bk, .dat (.str n), .dat (G.row22 (ws.map .str) way)] μ9 (rowIni C Ce told n x.goal x.base (x.rounds.map fun r => .str (G.line r)) (G.row22 (ws.map .str) way)) := fun {μ9} => by
        rw [hbk]
        exact .inr (.inr ⟨told, n, j, x.goal, x.base, _, _, _, rfl, ⟨hG, by rw [hnm]; exact hf, hpx, hgg x (List.mem_iff_getElem?.mpr ⟨j, ex⟩)⟩, hrow, rfl⟩)
      have hin : decide (n ∈ tags) = true := decide_eq_true (List.mem_iff_getElem?.mpr ⟨j, hj⟩)
      by_cases h5 : way < 5
      · obtain ⟨i, hwi, hxi, hik⟩ := N.bad_row hpc hw1 hw6' h5
        have hsi : Sh22 P w K mg base i i.shown := by
          rcases hik with rfl | ⟨m, hm, rfl⟩
          · exact ⟨.dat (.inl ⟨rfl, rfl, by decide, by decide, fun i z => by cases z⟩), by decide +kernel⟩
          · exact ⟨.dat (.inl (sho_int hm)), N.okS_iff.mp (N.okS_shown _ rfl)⟩
        obtain ⟨hsh, heq⟩ := pair_fine (a := "InvalidPieces") (b := i.shown) (by decide +kernel) hsi.ok
        refine ST.set (i := 9) (r := Ls [.str "InvalidPieces", .str i.shown]) (μ1 := μ.set k p4.ds) (EV.caughtPropO (k := 9) (R := R) (xs := [.str "InvalidPieces", .str i.shown]) (d := G.row22 (ws.map .str) way) (oo := .error (Ce, [("index", i)])) Y B.klR.cl B.words hL rfl rfl hgd hr (by decide) (by decide) (CaughtO.err Ee hsi.sh hme) (fun fs e => by cases e) (fun A2 outer2 s2 H2 Ex2 f2 c2' hr2 => EVR.makeF B.row (takesN (takes_of rfl rfl rfl rfl)) (hr2.mono (by decide)) (AV.cons (nm 5) (AV.cons (nm 6) (AV.cons (nm 7) AV.nil))) (by rw [← ini_bad22 (C := C) (ps := told) (n := n) (g := x.goal) (b := x.base) (tx := x.rounds.map fun r => .str (G.line r)) hwi]; exact hcon)) (hL := (show LamX.lamSB (defScope sLAsked) _ = true by decide +kernel))) scAs.nd rfl (by first | exact Or.inl rfl | exact Or.inr rfl) ?_
        refine ST.envK (ρ' := [some (.ptr k), some (Tp told), some (bookE C told), some (Ls (tags.map .str)), some (Ls O2), some (.dat bk), some (Ss n), some (.dat (G.row22 (ws.map .str) way)), some (Ii (way : Int)), some (Ls [.str "InvalidPieces", .str i.shown]), none]) rfl ?_
        refine ST.ifNo (k := false) (TV.not (TV.val (EV.isC B.ic T.isinstance B.bk (EV.dob (C := C) (fs := [("kept", .tuple told)]) (by rw [← hbk]; exact nm 5))))) rfl ?_
        refine ST.ifNo (k := false) (WV.tv (WV.orF (TV.not (TV.val (isI T (nm 6) (kit_str _) (by decide +kernel) T.str))) (WV.or1 (TV.eq (tNiL (nm 6) (nm 3) rfl (strs_flat _)) (by rw [inD_strs, hin]; rfl))))) rfl ?_
        refine ST.ifYes (k := true) (TV.eq (tLt (nm 8) EV.int) (decide_eq_true (by omega))) rfl ?_
        have hL2 : (G.idx22 (ws.map PyData.str))[4]? = some (.int (ws.length : Int)) := by
          unfold G.idx22
          rw [lws]
          rfl
        refine ST.retP (r' := Bb true) (EV.eq (cEqD (by omega) (nm 9) (EVF.lst (ds := [.str "InvalidPieces", .str i.shown]) (AV.cons EV.str (AV.cons (EV.reprAny Y.rep hgd (hr.mono (by decide)) ?_ hsi.sh) AV.nil))).ev hsh hsh) (eqT _ heq)) rfl tks
        clear hcon hpx hwi hsi hsh heq hrow kn hone htwo hL2
        match way, h5, hxi with
        | 0, _, hxi => exact ixL (ds := [.none, .int 2, .none, .int 0, .int (((([] : List PyData).length : Nat) : Int) - 2)]) (EVF.lst (ds := [.none, .int 2, .none, .int 0, .int (((([] : List PyData).length : Nat) : Int) - 2)]) (AV.cons EV.non (AV.cons EV.int (AV.cons EV.non (AV.cons EV.int (AV.cons (oSub (bLenT (ds := ([] : List PyData)) T (nm 7)) EV.int) AV.nil)))))).ev (nm 8) (at_nat (i := 0) hxi)
        | 1, _, hxi => exact ixL (ds := [.none, .int 2, .none, .int 0, .int ((([PyData.str "a", PyData.str "b", PyData.str ""].length : Nat) : Int) - 2)]) (EVF.lst (ds := [.none, .int 2, .none, .int 0, .int ((([PyData.str "a", PyData.str "b", PyData.str ""].length : Nat) : Int) - 2)]) (AV.cons EV.non (AV.cons EV.int (AV.cons EV.non (AV.cons EV.int (AV.cons (oSub (bLenT (ds := [PyData.str "a", PyData.str "b", PyData.str ""]) T (nm 7)) EV.int) AV.nil)))))).ev (nm 8) (at_nat (i := 1) hxi)
        | 2, _, hxi => exact ixL (ds := [.none, .int 2, .none, .int 0, .int (((([] : List PyData).length : Nat) : Int) - 2)]) (EVF.lst (ds := [.none, .int 2, .none, .int 0, .int (((([] : List PyData).length : Nat) : Int) - 2)]) (AV.cons EV.non (AV.cons EV.int (AV.cons EV.non (AV.cons EV.int (AV.cons (oSub (bLenL (ds := ([] : List PyData)) T (nm 7)) EV.int) AV.nil)))))).ev (nm 8) (at_nat (i := 2) hxi)
        | 3, _, hxi => exact ixL (ds := [.none, .int 2, .none, .int 0, .int ((((PyData.int 1 :: ws.map PyData.str).length : Nat) : Int) - 2)]) (EVF.lst (ds := [.none, .int 2, .none, .int 0, .int ((((PyData.int 1 :: ws.map PyData.str).length : Nat) : Int) - 2)]) (AV.cons EV.non (AV.cons EV.int (AV.cons EV.non (AV.cons EV.int (AV.cons (oSub (bLenT (ds := (PyData.int 1 :: ws.map PyData.str)) T (nm 7)) EV.int) AV.nil)))))).ev (nm 8) (at_nat (i := 3) hxi)
        | 4, _, hxi =>
          refine ixL (ds := G.idx22 (ws.map .str)) (EVF.lst (ds := G.idx22 (ws.map .str)) (AV.cons EV.non (AV.cons EV.int (AV.cons EV.non (AV.cons EV.int (AV.cons (EV.eq (oSub (bLenT (ds := ws.map .str ++ [.str "B", .none]) T (nm 7)) EV.int) (congrArg Ii ?_)) AV.nil)))))).ev (nm 8) (at_nat hxi)
          rw [List.length_append]
          show ((ws.map PyData.str).length + 2 : Nat) - (2 : Int) = _
          omega
      · have ew : G.row22 (ws.map .str) way = .tuple (ws.map .str) := N.row_same h5
        have hwg := N.good_row hpc hw1 hw6'
        obtain ⟨dl, wh, e0⟩ := ini_good22 (C := C) (Ce := Ce) (ps := told) (n := n) (g := x.goal) (b := x.base) (tx := x.rounds.map fun r => .str (G.line r)) hwg
        rw [ew] at hcon ⊢
        rw [e0] at hcon
        have hst : Sh22 P w K mg base (.tuple (ws.map .str)) (PyData.tuple (ws.map .str)).shown := sh22_sm (N.Sm2.tuple (a := 0) (b := 42) (n := 6) (fun y hy => by
          obtain ⟨s, hs, rfl⟩ := List.mem_map.mp hy
          exact N.Sm2.str (N.lo_piece22 (hpc s hs)) (hpc s hs).len.2) (by omega)) (by decide) (by decide)
        obtain ⟨hsh, heq⟩ := pair_fine (a := "told") (b := (PyData.tuple (ws.map .str)).shown) (by decide +kernel) hst.ok
        refine ST.set (i := 9) (r := Ls [.str "told", .str (PyData.tuple (ws.map .str)).shown]) (μ1 := μ.set k p4.ds) (EV.caughtPropO (k := 9) (R := R) (xs := [.str "told", .str (PyData.tuple (ws.map .str)).shown]) (d := .tuple (ws.map .str)) (oo := .ok (rowD C told n (ws.map .str) (ws.map .str) 0 dl wh)) Y B.klR.cl B.words hL rfl rfl hgd hr (by decide) (by decide) (CaughtO.told hst.sh) (fun fs e => by cases e; exact ⟨_, _, rfl, rfl, rfl, rfl⟩) (fun A2 outer2 s2 H2 Ex2 f2 c2' hr2 => EVR.makeF B.row (takesN (takes_of rfl rfl rfl rfl)) (hr2.mono (by decide)) (AV.cons (nm 5) (AV.cons (nm 6) (AV.cons (nm 7) AV.nil))) hcon) (hL := (show LamX.lamSB (defScope sLAsked) _ = true by decide +kernel))) scAs.nd rfl (by first | exact Or.inl rfl | exact Or.inr rfl) ?_
        refine ST.envK (ρ' := [some (.ptr k), some (Tp told), some (bookE C told), some (Ls (tags.map .str)), some (Ls O2), some (.dat bk), some (Ss n), some (Tp (ws.map .str)), some (Ii (way : Int)), some (Ls [.str "told", .str (PyData.tuple (ws.map .str)).shown]), none]) rfl ?_
        refine ST.ifNo (k := false) (TV.not (TV.val (EV.isC B.ic T.isinstance B.bk (EV.dob (C := C) (fs := [("kept", .tuple told)]) (by rw [← hbk]; exact nm 5))))) rfl ?_
        refine ST.ifNo (k := false) (WV.tv (WV.orF (TV.not (TV.val (isI T (nm 6) (kit_str _) (by decide +kernel) T.str))) (WV.or1 (TV.eq (tNiL (nm 6) (nm 3) rfl (strs_flat _)) (by rw [inD_strs, hin]; rfl))))) rfl ?_
        refine ST.ifNo (k := false) (TV.eq (tLt (nm 8) EV.int) (decide_eq_false (by omega))) rfl ?_
        exact ST.retP (r' := Bb true) (EV.eq (cEqD (by omega) (nm 9) (EVF.lst (ds := [.str "told", .str (PyData.tuple (ws.map .str)).shown]) (AV.cons EV.str (AV.cons (EV.reprAny Y.rep hgd (hr.mono (by decide)) (nm 7) hst.sh) AV.nil))).ev hsh hsh) (eqT _ heq)) rfl tks
  · have hod : Od22 P w K mg base what := by
      rcases hwa with z | z
      · exact absurd z hb
      · exact hone what z
    obtain ⟨hno, tw, hsw⟩ := hod
    obtain ⟨hsh, heq⟩ := pair_fine (a := "NotABook") (b := tw) (by decide +kernel) hsw.ok
    refine ST.set (i := 9) (r := Ls [.str "NotABook", .str tw]) (μ1 := μ.set k p4.ds) (EV.caughtPropO (k := 9) (R := R) (xs := [.str "NotABook", .str tw]) (d := G.row22 (ws.map .str) way) (oo := .error (Cn, [("given", what)])) Y B.klR.cl B.words hL rfl rfl hgd hr (by decide) (by decide) (CaughtO.err En hsw.sh hmn) (fun fs e => by cases e) (fun A2 outer2 s2 H2 Ex2 f2 c2' hr2 => EVR.makeF B.row (takesN (takes_of rfl rfl rfl rfl)) (hr2.mono (by decide)) (AV.cons (nm 5) (AV.cons (nm 6) (AV.cons (nm 7) AV.nil))) (.inl ⟨what, who, _, rfl, hno, rfl⟩)) (hL := (show LamX.lamSB (defScope sLAsked) _ = true by decide +kernel))) scAs.nd rfl (by first | exact Or.inl rfl | exact Or.inr rfl) ?_
    refine ST.envK (ρ' := [some (.ptr k), some (Tp told), some (bookE C told), some (Ls (tags.map .str)), some (Ls O2), some (.dat what), some (.dat who), some (.dat (G.row22 (ws.map .str) way)), some (Ii (way : Int)), some (Ls [.str "NotABook", .str tw]), none]) rfl ?_
    refine ST.ifYes (k := true) (TV.not (TV.val (EV.isN B.no hno T.isinstance B.bk (nm 5)))) rfl ?_
    exact ST.retP (r' := Bb true) (EV.eq (cEqD (by omega) (nm 9) (EVF.lst (ds := [.str "NotABook", .str tw]) (AV.cons EV.str (AV.cons (EV.reprAny Y.rep hgd (hr.mono (by decide)) (nm 5) hsw.sh) AV.nil))).ev hsh hsh) (eqT _ heq)) rfl tks
noncomputable abbrev nRt : List Str := ["_law_purse_here", "_law_told_here", "_law_mine", "_law_turn"]
theorem scRt : FnScope nRt ["_law_purse_here"] (defScope sLRight) := ⟨rfl, rfl, rfl, by decide +kernel, rfl, by decide +kernel, by decide +kernel⟩
noncomputable def cnRt : ConP := fun rs μ Φ => ∃ (k : Nat) (p : G.Pu), rs = [.ptr k] ∧ (μ[k]? = some p.ds ∧ p.ok) ∧ Φ = fun r μ' => r = Bb true ∧ ∃ q : G.Pu, μ' = μ.set k q.ds
theorem cRt (T : Bt mg) (C2 : Cal P w K mg base "_law_mates" 5 ["_law_purse_here", "_law_most", "_law_many"] cnMates) (C3 : Cal P w K mg base "_law_told" 3 ["_law_mates_here"] cnTold) (C4 : CalG P w K mg base "_law_asked" 12 ["_law_purse_here", "_law_told_here", "_law_mine"] (cnAs C))
    (B : Bk22 P w K mg base C R Ce Cn Cu) (D : Df K mg "_law_right" sLRight) : CalGP P w K mg base "_law_right" 14 ["_law_purse_here"] cnRt := by
  refine D.calGP scRt (fun _ _ _ _ _ _ us hl => len1 us hl fun _ => rfl) (by decide) fun f cdv A outer s0 H Ex hgd hr rs μ Φ hC => ?_
  obtain ⟨k, p, rfl, ⟨hk, hp⟩, rfl⟩ := hC
  obtain ⟨tags, hg⟩ := N.mates_good (most := 3) (mny := 2) hp (by decide) (by decide) (by decide) (by decide)
  have hgg := N.mates_gg (most := 3) (mny := 2) hp (by decide) (by decide) (by decide)
  have hq := mates_ok2 (most := 3) (mny := 2) hp (by decide) (by decide) (by decide)
  have hmo := N.mates_ok hg
  refine ST.set (i := 1) (EV.call C3 (hr.mono (by decide)) (AV.cons (EV.call C2 (hr.mono (by decide)) (AV.cons (nm 0) (AV.cons EV.int (AV.cons EV.int AV.nil))) ⟨k, p, 3, 2, rfl, ⟨hk, hp, by decide, by decide, by decide, by decide⟩, rfl, rfl⟩) AV.nil) ⟨_, rfl, hmo, rfl, rfl⟩) scRt.nd rfl (by first | exact Or.inl rfl | exact Or.inr rfl) ?_
  generalize (G.mates 3 2 p).1 = ms at *
  generalize (G.mates 3 2 p).2 = q at *
  have hG := N.told_good hg
  have kq : ∀ v : G.Pu, (μ.set k v.ds)[k]? = some v.ds := fun v => at_set (es := v.ds) hk
  refine ST.set (i := 2) (r := bookE C (ms.map G.told)) (μ1 := μ.set k q.ds) (EV.make B.mak (hr.mono (by decide)) (nm 1) hG) scRt.nd rfl (by first | exact Or.inl rfl | exact Or.inr rfl) ?_
  have hall : ∀ l : List Bool, (l.map fun _ => true).all id = true := fun l => by
    rw [List.all_map, List.all_eq_true]
    exact fun _ _ => rfl
  refine ST.retQ (r := Bb true) (EV.eq (bAll (bs := (G.run (fun (_ : Nat) v => (true, nxt22 C tags ms v)) (List.range 20) q).1.map fun _ => true) T rfl (EV.eq (LCV.evf (own := [("_law_turn", 3)]) (LCV.run (k := k) (p := q) (bs := List.range 20) (fun (i : Nat) => PyData.int (0 + (i : Int))) (fun _ => .bool true) (fun _ v => (true, nxt22 C tags ms v)) (IV.eqD (IV.rng1 EV.int (by decide) (by decide) T.range) rfl) (set_same (kq _)).symm.symm hq (fun b hb v hv => nxt22_ok hv hg) (fun b hb v hv => ?_) (by simp)) rfl scRt.nd (blkOk_by (N := nRt) (sc := defScope sLRight) (by decide +kernel))).ev (congrArg Ls (by rw [List.map_map]; rfl)))) (by rw [hall])) ⟨rfl, (G.run (fun (_ : Nat) v => (true, nxt22 C tags ms v)) (List.range 20) q).2, ?_⟩
  · refine ⟨_, fun _ _ _ _ _ => GV.name (i := 3) scRt.nd rfl (Or.inl rfl) (by simp), fun _ _ _ _ _ => ?_⟩
    rw [sset, sset]
    exact EV.st (EV.callG C4 hgd (hr.mono (by decide)) (AV.cons (nm 0) (AV.cons (nm 1) (AV.cons (nm 2) AV.nil))) ⟨k, v, tags, ms, rfl, ⟨kq _, hv, hg, hgg⟩, rfl, rfl⟩) sset
  · rw [sset]
    exact take_set
end
end J
namespace N
open PySem J L2 M
noncomputable def ends (r d : Int) : Str := strI r ++ " of " ++ strI d
end N
namespace J
open PySem PySem.Spec
open PyProof.Rows L2
structure Cau (P : Program) (w : World) (K : PySem.W.Frag) (mg : Str → Option Value) (base : Heap) (c1 c2 c3 : Addr) : Prop where
  df : Df K mg "_law_caught" sLCaught
  rep : mg "repr" = none
  tel : Tel P w K mg base
  m1 : mg "NotRight" = some (.ref c1)
  m2 : mg "NotThere" = some (.ref c2)
  m3 : mg "CannotBe" = some (.ref c3)
end J
namespace J
open PySem PySem.Spec
open PyProof.Rows L2
section
variable {P : Program} {w : World} {K : PySem.W.Frag} {mg : Str → Option Value} {base h : Heap} {C : Addr}
theorem df_mk {n : Str} {st : Stmt} {f : Addr} {od an : Option Addr} {sl : Array (Option Value)} {oc kV dc pm cd ct : Value} (X : K.In h) (G : h.Ns mainGlobals mg) (a : PySem.W.nsIn K mainGlobals n = some (some (.ref f)))
    (l : K.lookup f = some ⟨oc, od, .func (PySem.W.fnOf n n (defArgs st) (defBody st) (defScope st) .none kV dc pm an cd ct), sl⟩) (c : PySem.W.codeIn K cd n = true) (k : PySem.W.keepIn K (.ref f) = true) : Df K mg n st := ⟨f, _, fun_mk l c k, PySem.W.mg_of X G a⟩
structure MFun (K : PySem.W.Frag) (C : Addr) (m qual : Str) (st : Stmt) : Prop where
  ex : ∃ f fd, Fun K m qual st f fd ∧ PySem.W.findIn K (.ref C) m = some (some (.ref f)) ∧ PySem.W.isFn K (.ref f) = true
theorem mf_mk {m qual : Str} {st : Stmt} {f : Addr} {od an : Option Addr} {sl : Array (Option Value)} {oc kV dc pm cd ct : Value} (a : PySem.W.findIn K (.ref C) m = some (some (.ref f))) (i : PySem.W.isFn K (.ref f) = true)
    (l : K.lookup f = some ⟨oc, od, .func (PySem.W.fnOf m qual (defArgs st) (defBody st) (defScope st) .none kV dc pm an cd ct), sl⟩) (c : PySem.W.codeIn K cd qual = true) (k : PySem.W.keepIn K (.ref f) = true) : MFun K C m qual st := ⟨f, _, fun_mk l c k, a, i⟩
structure PFun (K : PySem.W.Frag) (C : Addr) (m qual : Str) (st : Stmt) : Prop where
  ex : ∃ p f fd, Fun K m qual st f fd ∧ PropOf K C m p f
theorem pf_mk {m qual : Str} {st : Stmt} {p f : Addr} {rest : List Value} {od an : Option Addr} {sl : Array (Option Value)} {oc kV dc pm cd ct : Value} (a : PySem.W.findIn K (.ref C) m = some (some (.ref p))) (g : PySem.W.specialIn K (.ref p) "__get__" = some (some (.builtin "property.__get__"))) (t : PySem.W.takesIn K (.ref p) = some true) (r : PySem.W.recIn K p "property" = some (.ref f :: rest))
    (l : K.lookup f = some ⟨oc, od, .func (PySem.W.fnOf m qual (defArgs st) (defBody st) (defScope st) .none kV dc pm an cd ct), sl⟩) (c : PySem.W.codeIn K cd qual = true) (k : PySem.W.keepIn K (.ref f) = true) : PFun K C m qual st := ⟨p, f, _, fun_mk l c k, a, g, t, rest, r⟩
theorem gl_of {n : Str} {v : Value} (X : K.In h) (G : h.Ns mainGlobals mg) (e : PySem.W.nsIn K mainGlobals n = some (some v)) : mg n = some v := PySem.W.mg_of X G e
theorem no_of {n : Str} (X : K.In h) (G : h.Ns mainGlobals mg) (e : PySem.W.nsIn K mainGlobals n = some none) : mg n = none := PySem.W.mg_none_of X G e
theorem gx_of {n : Str} {v : Tok → Value} {t : Tok} (X : K.In h) (G : h.Ns mainGlobals mg) (e : PySem.W.nsIn K mainGlobals n = some (some (v t))) : ∃ t, mg n = some (v t) := ⟨t, PySem.W.mg_of X G e⟩
end
theorem kit_of {K : PySem.W.Frag} {C : Addr} {t : Value} {b : Bool} (hd : PySem.W.hasDictIn K C = true) (ht : PySem.W.typeIn K (.ref C) = some (.type "type")) (hn : (t == .ref C) = false) (hs : PySem.W.subIn K t (.ref C) = some b) : PySem.W.kitOne K t (.ref C) = some b := by
  obtain ⟨cd, hc, _⟩ := PySem.W.any_some hd
  unfold PySem.W.kitOne PySem.W.kitCls
  rw [hn, if_neg Bool.false_ne_true]
  show (if ((PySem.W.clsIn K C).isSome && PySem.W.typeIn K (.ref C) == some (.type "type")) = true then PySem.W.subIn K t (.ref C) else none) = some b
  have e : ((PySem.W.clsIn K C).isSome && PySem.W.typeIn K (.ref C) == some (.type "type")) = true := by rw [hc, ht]; rfl
  rw [if_pos e]
  exact hs
end J
namespace J
open PySem PySem.Spec
open PyProof.Rows L2
noncomputable def errOk (K : PySem.W.Frag) (D : Addr) (n : Nat) (f : Str) (U0 U1 U2 : Addr) : Bool :=
  (List.range 12).all (fun j => match PySem.W.nsIn K mainGlobals (errName j) with
    | some (some (.ref T)) => decide (PySem.W.kitOne K (.ref D) (.ref T) = some (j == n))
    | _ => false) &&
  (List.range 3).all (fun j => decide (PySem.W.nsIn K mainGlobals (baseNs.getD j Str.empty) = some (some (.ref ([U0, U1, U2].getD j 0)))) && decide (PySem.W.kitOne K (.ref D) (.ref ([U0, U1, U2].getD j 0)) = some (errSort n j))) &&
  (List.range 3).all (fun j => decide (PySem.W.nsIn K mainGlobals (ownNs.getD j "") = some none) && decide (PySem.W.kitOne K (.ref D) (.type (ownNs.getD j "")) = some (errSort n j))) &&
  xfB K D && decide (PySem.W.findIn K (.ref D) f = some none) && decide (PySem.W.findIn K (.ref D) "__class__" = some (some (.builtin "object.__class__"))) && decide (PySem.W.specialIn K (.builtin "object.__class__") "__get__" = some (some (.builtin "getset_descriptor.__get__"))) &&
  decide (PySem.W.takesIn K (.builtin "object.__class__") = some true) && decide (PySem.W.mroIn K D (.type "object") = some true) && decide (PySem.W.exmAny K (.ref D) [.ref U0, .ref U1, .ref U2] = some true)
section
variable {K : PySem.W.Frag} {h : Heap} {mg : Str → Option Value} {D U0 U1 U2 : Addr} {n : Nat} {f : Str}
theorem errC_of (X : K.In h) (G : h.Ns mainGlobals mg) (e : errOk K D n f U0 U1 U2 = true) (hn : ErrAt n f) :
    ErrC K mg D n f ∧ PySem.W.exmAny K (.ref D) [.ref U0, .ref U1, .ref U2] = some true ∧ mg "NotRight" = some (.ref U0) ∧ mg "NotThere" = some (.ref U1) ∧ mg "CannotBe" = some (.ref U2) := by
  unfold errOk at e
  simp only [Bool.and_eq_true, decide_eq_true_eq] at e
  obtain ⟨⟨⟨⟨⟨⟨⟨⟨⟨e1, e2⟩, e3⟩, e4⟩, e5⟩, e6⟩, e7⟩, e8⟩, e9⟩, e10⟩ := e
  have xc := xfB_ok e4
  have b : ∀ j, j < 3 → mg (baseNs.getD j Str.empty) = some (.ref ([U0, U1, U2].getD j 0)) ∧ PySem.W.kitOne K (.ref D) (.ref ([U0, U1, U2].getD j 0)) = some (errSort n j) := fun j hj => by
    have z := List.all_eq_true.mp e2 j (List.mem_range.mpr hj)
    rw [Bool.and_eq_true, decide_eq_true_eq, decide_eq_true_eq] at z
    exact ⟨gl_of X G z.1, z.2⟩
  refine ⟨⟨⟨xc.ga, xc.gg, xc.exC, xc.hdC, e6, e7, e8, e9⟩, xc, e5, fun j hj => ?_, fun j hj => ⟨_, b j hj⟩, fun j hj => ?_, hn⟩, e10, (b 0 (by decide)).1, (b 1 (by decide)).1, (b 2 (by decide)).1⟩
  · have z := List.all_eq_true.mp e1 j (List.mem_range.mpr hj)
    split at z
    · rename_i T hz
      exact ⟨T, gl_of X G hz, of_decide_eq_true z⟩
    · cases z
  · have z := List.all_eq_true.mp e3 j (List.mem_range.mpr hj)
    rw [Bool.and_eq_true, decide_eq_true_eq, decide_eq_true_eq] at z
    exact ⟨no_of X G z.1, z.2⟩
theorem excK_of {P : Program} {w : World} {base : Heap} {fI : Addr} {fd : FuncData} {nm q : Str} {N : Addr} {bs bm : List Value} {sn : List Str} {sub : List Value} {ab : Bool} {col : Option Bool} {dd : Option Addr} {k0 k1 k2 k3 k5 : Option Value} {st : Stmt} {qual : Str} {p1 p2 p3 pos : Pos} (X : K.In h) (G : h.Ns mainGlobals mg)
    (C : ErrC K mg D n f) (at_ : mg (errName n) = some (.ref D)) (lk : K.lookup D = some (excClassObj nm q D N bs bm true sn sub ab col dd k0 k1 k2 k3 k5 "ValueError.__new__")) (hr : PySem.HandSPX.refsVE bm = true) (sa : PySem.W.findIn K (.ref D) "__setattr__" = some (some (.builtin "object.__setattr__")))
    (ty : PySem.W.typeIn K (.ref D) = some (.type "type")) (kC : PySem.W.keepIn K (.ref D) = true) (iC : PySem.W.findIn K (.ref D) "__init__" = some (some (.ref fI))) (tI : PySem.W.typeIn K (.ref fI) = some (.type "function")) (F : Fun K "__init__" qual st fI fd) (Sc : FnScope ["self", f] ["self", f] (defScope st))
    (hb : defBody st = [.Assign [.Attribute (.Name "self" p1) f p2] (.Name f p3) pos]) (hv : Vis (defScope st) f) (hv0 : Vis (defScope st) "self") (hbi : ∀ (kV doc pm : Value) (an : Option Addr) (cdv ct : Value) (us : List Value), us.length = 2 → bindArgs (PySem.W.fnOf "__init__" qual (defArgs st) (defBody st) (defScope st) .none kV doc pm an cdv ct) ⟨us, []⟩ = pure (([("self" : Str), f]).zip us)) (hd : (f == ("__debug__" : Str)) = false) (hcd : (f == ("__classdict__" : Str)) = false) : ExcK P w K mg base (errName n) D f :=
  ⟨⟨⟨nm, q, N, bs, bm, sn, sub, ab, col, dd, k0, k1, k2, k3, k5, lk, hr⟩, sa, C.xfc.exC, ty, kC⟩, at_, C.no, fI, fd, iC, tI, okXI F Sc ⟨⟨nm, q, N, bs, bm, sn, sub, ab, col, dd, k0, k1, k2, k3, k5, lk, hr⟩, sa, C.xfc.exC, ty, kC⟩ C.no hb hv hv0 hd hcd, F.binds hbi⟩
theorem fi_mk {x qual : Str} {st : Stmt} {f : Addr} {od an : Option Addr} {sl : Array (Option Value)} {oc kV dc pm cd ct : Value}
    (l : K.lookup f = some ⟨oc, od, .func (PySem.W.fnOf x qual (defArgs st) (defBody st) (defScope st) .none kV dc pm an cd ct), sl⟩) (c : PySem.W.codeIn K cd qual = true) (k : PySem.W.keepIn K (.ref f) = true) : ∃ fd, Fun K x qual st f fd := ⟨_, fun_mk l c k⟩
end
end J
namespace J
open PySem PySem.Spec
open PyProof.Rows L2
section
variable {K : PySem.W.Frag} {h : Heap} {mg : Str → Option Value} {D : Addr} {n : Nat} {f : Str}
theorem excG_of {P : Program} {w : World} {base : Heap} {fI : Addr} {fd : FuncData} {nm q : Str} {B mk : String} {N : Addr} {bs bm : List Value} {sn : List Str} {sub : List Value} {ab : Bool} {col : Option Bool} {dd : Option Addr} {k0 k1 k2 k3 k5 : Option Value} {st : Stmt} {qual : Str} {p1 p2 p3 pos : Pos}
    (exC : PySem.W.subIn K (.ref D) (.type "BaseException") = some true) (no : PySem.W.findIn K (.ref D) f = some none) (at_ : mg (errName n) = some (.ref D)) (lk : K.lookup D = some (excClassObj nm q D N bs bm true sn sub ab col dd k0 k1 k2 k3 k5 mk)) (hB : (B = "ValueError" ∧ mk = "ValueError.__new__") ∨ (B = "LookupError" ∧ mk = "LookupError.__new__") ∨ (B = "ArithmeticError" ∧ mk = "ArithmeticError.__new__")) (hr : OG.ownLine B bm = true) (sa : PySem.W.findIn K (.ref D) "__setattr__" = some (some (.builtin "object.__setattr__")))
    (ty : PySem.W.typeIn K (.ref D) = some (.type "type")) (kC : PySem.W.keepIn K (.ref D) = true) (iC : PySem.W.findIn K (.ref D) "__init__" = some (some (.ref fI))) (tI : PySem.W.typeIn K (.ref fI) = some (.type "function")) (F : Fun K "__init__" qual st fI fd) (Sc : FnScope ["self", f] ["self", f] (defScope st))
    (hb : defBody st = [.Assign [.Attribute (.Name "self" p1) f p2] (.Name f p3) pos]) (hv : Vis (defScope st) f) (hv0 : Vis (defScope st) "self") (hbi : ∀ (kV doc pm : Value) (an : Option Addr) (cdv ct : Value) (us : List Value), us.length = 2 → bindArgs (PySem.W.fnOf "__init__" qual (defArgs st) (defBody st) (defScope st) .none kV doc pm an cdv ct) ⟨us, []⟩ = pure (([("self" : Str), f]).zip us)) (hd : (f == ("__debug__" : Str)) = false) (hcd : (f == ("__classdict__" : Str)) = false) : ExcG P w K mg base (errName n) D f := by
  obtain ⟨U, ob⟩ := OG.under_of hB hr
  have oe : OexG K D := ⟨⟨nm, q, N, bs, bm, sn, sub, ab, col, dd, k0, k1, k2, k3, k5, mk, lk, U, ob⟩, sa, exC, ty, kC⟩
  exact ⟨oe, at_, no, fI, fd, iC, tI, okXG F Sc oe no hb hv hv0 hd hcd, F.binds hbi⟩
end
end J
namespace J
open PySem PySem.Spec
open PyProof.Rows L2
theorem scI4 : FnScope ["self", "given"] ["self", "given"] (defScope sNotABookInit) := ⟨rfl, rfl, rfl, by decide +kernel, rfl, by decide +kernel, by decide +kernel⟩
theorem scI6 : FnScope ["self", "index"] ["self", "index"] (defScope sInvalidPiecesInit) := ⟨rfl, rfl, rfl, by decide +kernel, rfl, by decide +kernel, by decide +kernel⟩
theorem scI7 : FnScope ["self", "given"] ["self", "given"] (defScope sUnknownPlanInit) := ⟨rfl, rfl, rfl, by decide +kernel, rfl, by decide +kernel, by decide +kernel⟩
theorem end_of {P : Program} {w : World} {K : PySem.W.Frag} {h : Heap} {mg : Str → Option Value} {fa C U0 U1 U2 D4 fI4 D6 fI6 D7 fI7 : Addr}
    {nm4 qn4 : Str} {N4 : Addr} {bs4 bm4 : List Value} {sn4 : List Str} {sub4 : List Value} {ab4 : Bool} {col4 : Option Bool} {dd4 : Option Addr} {ka4 kb4 kc4 kd4 ke4 : Option Value}
    {nm6 qn6 : Str} {N6 : Addr} {bs6 bm6 : List Value} {sn6 : List Str} {sub6 : List Value} {ab6 : Bool} {col6 : Option Bool} {dd6 : Option Addr} {ka6 kb6 kc6 kd6 ke6 : Option Value}
    {nm7 qn7 : Str} {N7 : Addr} {bs7 bm7 : List Value} {sn7 : List Str} {sub7 : List Value} {ab7 : Bool} {col7 : Option Bool} {dd7 : Option Addr} {ka7 kb7 kc7 kd7 ke7 : Option Value}
    (X : K.In h) (G : h.Ns mainGlobals mg) (hfa : mg "law" = some (.ref fa)) (aC : PySem.W.nsIn K mainGlobals "Book" = some (some (.ref C))) (aU0 : PySem.W.nsIn K mainGlobals "NotRight" = some (some (.ref U0))) (aU1 : PySem.W.nsIn K mainGlobals "NotThere" = some (some (.ref U1))) (aU2 : PySem.W.nsIn K mainGlobals "CannotBe" = some (some (.ref U2)))
    (pg : PySem.W.plainGet K C Str.empty = true)
    (hd : PySem.W.hasDictIn K C = true)
    (po : PySem.W.plainOver K C = true)
    (sa : PySem.W.findIn K (.ref C) "__setattr__" = some (some (.builtin "object.__setattr__")))
    (nK : PySem.W.findIn K (.ref C) "kept" = some none)
    (mk : PySem.W.makesIn K C = true)
    (kc : PySem.W.keepIn K (.ref C) = true)
    (iha : PySem.W.findIn K (.ref C) "__class__" = some (some (.builtin "object.__class__")))
    (ihn : PySem.W.specialIn K (.builtin "object.__class__") "__get__" = some (some (.builtin "getset_descriptor.__get__")))
    (iht : PySem.W.takesIn K (.builtin "object.__class__") = some true)
    (ihm : PySem.W.mroIn K C (.type "object") = some true)
    (tyC : PySem.W.typeIn K (.ref C) = some (.type "type"))
    (nsNon : PySem.W.subIn K (.ref C) (.type "NoneType") = some false)
    (nrNon : PySem.W.subIn K (.type "NoneType") (.ref C) = some false)
    (nsBl : PySem.W.subIn K (.ref C) (.type "bool") = some false)
    (nrBl : PySem.W.subIn K (.type "bool") (.ref C) = some false)
    (nsInt : PySem.W.subIn K (.ref C) (.type "int") = some false)
    (nrInt : PySem.W.subIn K (.type "int") (.ref C) = some false)
    (nsStr : PySem.W.subIn K (.ref C) (.type "str") = some false)
    (nrStr : PySem.W.subIn K (.type "str") (.ref C) = some false)
    (nsLst : PySem.W.subIn K (.ref C) (.type "list") = some false)
    (nrLst : PySem.W.subIn K (.type "list") (.ref C) = some false)
    (nsTup : PySem.W.subIn K (.ref C) (.type "tuple") = some false)
    (nrTup : PySem.W.subIn K (.type "tuple") (.ref C) = some false)
    (nsDic : PySem.W.subIn K (.ref C) (.type "dict") = some false)
    (nrDic : PySem.W.subIn K (.type "dict") (.ref C) = some false)
    {R : Addr} (aR : PySem.W.nsIn K mainGlobals "Row" = some (some (.ref R)))
    (pgR : PySem.W.plainGet K R Str.empty = true)
    (hdR : PySem.W.hasDictIn K R = true)
    (poR : PySem.W.plainOver K R = true)
    (saR : PySem.W.findIn K (.ref R) "__setattr__" = some (some (.builtin "object.__setattr__")))
    (mkR : PySem.W.makesIn K R = true)
    (kcR : PySem.W.keepIn K (.ref R) = true)
    (f0R : PySem.W.findIn K (.ref R) "source" = some none)
    (f1R : PySem.W.findIn K (.ref R) "called" = some none)
    (f2R : PySem.W.findIn K (.ref R) "pieces" = some none)
    (f3R : PySem.W.findIn K (.ref R) "held" = some none)
    (f4R : PySem.W.findIn K (.ref R) "behind" = some none)
    (f5R : PySem.W.findIn K (.ref R) "told" = some none)
    (f6R : PySem.W.findIn K (.ref R) "whole" = some none)
    (kO : PySem.W.kitOne K (.ref C) (.type "tuple") = some false)
    (kS : PySem.W.kitOne K (.ref C) (.type "str") = some false)
    (bR : mg "repr" = none) (bI : mg "isinstance" = none)
    (aD4 : PySem.W.nsIn K mainGlobals "NotABook" = some (some (.ref D4))) (ok4 : errOk K D4 4 "given" U0 U1 U2 = true)
    (ox4 : K.lookup D4 = some (excClassObj nm4 qn4 D4 N4 bs4 bm4 true sn4 sub4 ab4 col4 dd4 ka4 kb4 kc4 kd4 ke4 "ValueError.__new__")) (rv4 : PySem.HandSPX.refsVE bm4 = true) (ts4 : PySem.W.findIn K (.ref D4) "__setattr__" = some (some (.builtin "object.__setattr__"))) (ty4 : PySem.W.typeIn K (.ref D4) = some (.type "type")) (kp4 : PySem.W.keepIn K (.ref D4) = true)
    (iC4 : PySem.W.findIn K (.ref D4) "__init__" = some (some (.ref fI4))) (tI4 : PySem.W.typeIn K (.ref fI4) = some (.type "function")) (FI4 : ∃ fd, Fun K "__init__" "NotABook.__init__" sNotABookInit fI4 fd)
    (aD6 : PySem.W.nsIn K mainGlobals "InvalidPieces" = some (some (.ref D6))) (ok6 : errOk K D6 6 "index" U0 U1 U2 = true)
    (ox6 : K.lookup D6 = some (excClassObj nm6 qn6 D6 N6 bs6 bm6 true sn6 sub6 ab6 col6 dd6 ka6 kb6 kc6 kd6 ke6 "ValueError.__new__")) (rv6 : PySem.HandSPX.refsVE bm6 = true) (ts6 : PySem.W.findIn K (.ref D6) "__setattr__" = some (some (.builtin "object.__setattr__"))) (ty6 : PySem.W.typeIn K (.ref D6) = some (.type "type")) (kp6 : PySem.W.keepIn K (.ref D6) = true)
    (iC6 : PySem.W.findIn K (.ref D6) "__init__" = some (some (.ref fI6))) (tI6 : PySem.W.typeIn K (.ref fI6) = some (.type "function")) (FI6 : ∃ fd, Fun K "__init__" "InvalidPieces.__init__" sInvalidPiecesInit fI6 fd)
    (aD7 : PySem.W.nsIn K mainGlobals "UnknownPlan" = some (some (.ref D7))) (ok7 : errOk K D7 7 "given" U0 U1 U2 = true)
    (ox7 : K.lookup D7 = some (excClassObj nm7 qn7 D7 N7 bs7 bm7 true sn7 sub7 ab7 col7 dd7 ka7 kb7 kc7 kd7 ke7 "LookupError.__new__")) (rv7 : OG.ownLine "LookupError" bm7 = true) (ts7 : PySem.W.findIn K (.ref D7) "__setattr__" = some (some (.builtin "object.__setattr__"))) (ty7 : PySem.W.typeIn K (.ref D7) = some (.type "type")) (kp7 : PySem.W.keepIn K (.ref D7) = true)
    (iC7 : PySem.W.findIn K (.ref D7) "__init__" = some (some (.ref fI7))) (tI7 : PySem.W.typeIn K (.ref fI7) = some (.type "function")) (FI7 : ∃ fd, Fun K "__init__" "UnknownPlan.__init__" sUnknownPlanInit fI7 fd)
    (T : Bt mg)
    (longest : ∃ t, mg "LONGEST_NAME" = some (.int 8 t))
    (letters : ∃ t, mg "LETTERS" = some (.str M.letters t))
    (digits : ∃ t, mg "DIGITS" = some (.str M.digits t))
    (mlast : ∃ t, mg "MOST_LAST" = some (.int 4 t))
    (mfar : ∃ t, mg "MOST_FAR" = some (.int 4 t))
    (mclasses : ∃ t, mg "MOST_CLASSES" = some (.int 3 t))
    (mclauses : ∃ t, mg "MOST_CLAUSES" = some (.int 3 t))
    (mrounds : ∃ t, mg "MOST_ROUNDS" = some (.int 5 t))
    (mplans : ∃ t, mg "MOST_PLANS" = some (.int 4 t))
    (mbase : ∃ t, mg "MOST_BASE" = some (.int 4 t))
    (mpiece : ∃ t, mg "LONGEST_PIECE" = some (.int 4 t))
    (mpieces : ∃ t, mg "MOST_PIECES" = some (.int 12 t))
    (d_is_integer : Df K mg "is_integer" sIsInteger)
    (d_is_name : Df K mg "is_name" sIsName)
    (d_is_piece : Df K mg "is_piece" sIsPiece)
    (d_is_goal : Df K mg "is_goal" sIsGoal)
    (d_last_of : Df K mg "last_of" sLastOf)
    (d_goal_span : Df K mg "goal_span" sGoalSpan)
    (d_read_digit : Df K mg "read_digit" sReadDigit)
    (d_read_class : Df K mg "read_class" sReadClass)
    (d_read_way : Df K mg "read_way" sReadWay)
    (d_put_clause : Df K mg "put_clause" sPutClause)
    (d_read_clause : Df K mg "read_clause" sReadClause)
    (d_share_place : Df K mg "share_place" sSharePlace)
    (d_fit_together : Df K mg "fit_together" sFitTogether)
    (d_read_round : Df K mg "read_round" sReadRound)
    (d_can_stand : Df K mg "can_stand" sCanStand)
    (d_are_rounds : Df K mg "are_rounds" sAreRounds)
    (d_is_plan : Df K mg "is_plan" sIsPlan)
    (d_check_plans : Df K mg "check_plans" sCheckPlans)
    (d_check_book : Df K mg "check_book" sCheckBook)
    (d_plan_of : Df K mg "plan_of" sPlanOf)
    (d_check_pieces : Df K mg "check_pieces" sCheckPieces)
    (d_goal_texts : Df K mg "goal_texts" sGoalTexts)
    (d_plan_text : Df K mg "plan_text" sPlanText)
    (d_law_cell : Df K mg "_law_cell" sLCell)
    (d_law_purse : Df K mg "_law_purse" sLPurse)
    (d_law_draw : Df K mg "_law_draw" sLDraw)
    (d_law_pick : Df K mg "_law_pick" sLPick)
    (d_law_tag : Df K mg "_law_tag" sLTag)
    (d_law_tags : Df K mg "_law_tags" sLTags)
    (d_law_goal : Df K mg "_law_goal" sLGoal)
    (d_law_deed : Df K mg "_law_deed" sLDeed)
    (d_law_overs : Df K mg "_law_overs" sLOvers)
    (d_law_round : Df K mg "_law_round" sLRound)
    (d_law_mates : Df K mg "_law_mates" sLMates)
    (d_law_clause : Df K mg "_law_clause" sLClause)
    (d_law_line : Df K mg "_law_line" sLLine)
    (d_law_aim : Df K mg "_law_aim" sLAim)
    (d_law_told : Df K mg "_law_told" sLTold)
    (d_law_error : Df K mg "_law_error" sLError)
    (d_law_caught : Df K mg "_law_caught" sLCaught)
    (d_law_pieces : Df K mg "_law_pieces" sLPieces)
    (d_law_asked : Df K mg "_law_asked" sLAsked)
    (d_law_right : Df K mg "_law_right" sLRight)
    (d_law : Df K mg "law" sLaw)
    (m_init : MFun K C "__init__" "Book.__init__" sInit)
    (m_find_plan : MFun K C "find_plan" "Book.find_plan" sFindPlan)
    (m_plan : MFun K C "plan" "Book.plan" sPlan)
    (m_str : MFun K C "__str__" "Book.__str__" sStr)
    (m_repr : MFun K C "__repr__" "Book.__repr__" sRepr)
    (m_names : PFun K C "names" "Book.names" sNames)
    (m_initR : MFun K R "__init__" "Row.__init__" sRowInit)
    (m_wordsR : PFun K R "words" "Row.words" sRowWords)
    (t_law_asked : (lamTab K "_law_asked").isSome = true)
    : ∃ fd : FuncData, (∀ (t : Shared) (u : Value), BindsTo t fd ⟨[u], []⟩ [("_law_script", u)]) ∧ ∀ bs : Heap, K.In bs → bs.Ns mainGlobals mg → (∀ y ∈ lamDefs, (lamTab K y).isSome = true → LamB K mg bs y) → FnG P w K mg bs 16 fa fd ["_law_script"] (spLawT K) := by
  obtain ⟨f, fd, F, hm⟩ := d_law.ex
  have e := hfa.symm.trans hm
  cases e
  refine ⟨fd, ?_, fun bs inB nsB lamB => ?_⟩
  · obtain ⟨oc, od, kV, doc, pm, an, cdv, ct, osl, rfl, lk, hcd⟩ := F.ex
    exact fun t u => .of_eq rfl
  · have U : Gf mg := ⟨T, longest, letters, digits, mlast, mfar, mclasses, mclauses, mrounds, mplans, mbase⟩
    have atR : mg "Row" = some (.ref R) := gl_of X G aR
    have kR : KlR K R := ⟨⟨pgR, hdR, poR, saR⟩, f0R, f1R, f2R, f3R, f4R, f5R, f6R⟩
    have at_ : mg "Book" = some (.ref C) := gl_of X G aC
    have k : Kl K C := ⟨⟨pg, hd, po, sa⟩, nK⟩
    obtain ⟨E4, hm4, m1, m2, m3⟩ := errC_of X G ok4 (by decide)
    obtain ⟨fdI4, FI4⟩ := FI4
    have x4 : ExcK P w K mg bs "NotABook" D4 "given" := excK_of X G E4 (gl_of X G aD4) ox4 rv4 ts4 ty4 kp4 iC4 tI4 FI4 scI4 rfl (Or.inl rfl) (Or.inl rfl) (fun _ _ _ _ _ _ us hl => len2 us hl fun _ _ => rfl) (by decide) (by decide)
    obtain ⟨E6, hm6, m1, m2, m3⟩ := errC_of X G ok6 (by decide)
    obtain ⟨fdI6, FI6⟩ := FI6
    have x6 : ExcK P w K mg bs "InvalidPieces" D6 "index" := excK_of X G E6 (gl_of X G aD6) ox6 rv6 ts6 ty6 kp6 iC6 tI6 FI6 scI6 rfl (Or.inl rfl) (Or.inl rfl) (fun _ _ _ _ _ _ us hl => len2 us hl fun _ _ => rfl) (by decide) (by decide)
    obtain ⟨E7, hm7, m1, m2, m3⟩ := errC_of X G ok7 (by decide)
    obtain ⟨fdI7, FI7⟩ := FI7
    have x7 : ExcG P w K mg bs "UnknownPlan" D7 "given" := excG_of (n := 7) E7.xfc.exC E7.no (gl_of X G aD7) ox7 (Or.inr (Or.inl ⟨rfl, rfl⟩)) rv7 ts7 ty7 kp7 iC7 tI7 FI7 scI7 rfl (Or.inl rfl) (Or.inl rfl) (fun _ _ _ _ _ _ us hl => len2 us hl fun _ _ => rfl) (by decide) (by decide)
    obtain ⟨fe, ge, Fe, me⟩ := d_law_error.ex
    have Y : Cau P w K mg bs U0 U1 U2 := ⟨d_law_caught, bR, ⟨fe, ge, ((okErr bI bR Fe).or (okErr0 bI Fe)), me, Fe.kp, Fe.binds fun _ _ _ _ _ _ us hl => len1 us hl fun _ => rfl⟩, m1, m2, m3⟩
    have L_law_asked := lamB "_law_asked" (by decide) t_law_asked
    have ic : C8.InsC K C := ⟨⟨pg, hd, po, sa⟩, iha, ihn, iht, ihm, if_pos (beq_self_eq_true _)⟩
    have hno : NoTs K C := ⟨⟨kit_of hd tyC (by rfl) nrNon, nsNon, nrNon⟩, ⟨kit_of hd tyC (by rfl) nrBl, nsBl, nrBl⟩, ⟨kit_of hd tyC (by rfl) nrInt, nsInt, nrInt⟩, ⟨kit_of hd tyC (by rfl) nrStr, nsStr, nrStr⟩, ⟨kit_of hd tyC (by rfl) nrLst, nsLst, nrLst⟩, ⟨kit_of hd tyC (by rfl) nrTup, nsTup, nrTup⟩, ⟨kit_of hd tyC (by rfl) nrDic, nsDic, nrDic⟩⟩
    have a_is_integer := cIsInteger (P := P) (w := w) (base := bs) U d_is_integer
    have a_is_name := cIsName (P := P) (w := w) (base := bs) U d_is_name
    have a_is_piece := cPcA (P := P) (w := w) (base := bs) U mpiece d_is_piece
    have a_is_goal := cIsGoal (P := P) (w := w) (base := bs) U d_is_goal
    have a_last_of := cLo (P := P) (w := w) (base := bs) T d_last_of
    have a_goal_span := cGs T a_last_of d_goal_span
    have a_read_digit := cReadDigit (P := P) (w := w) (base := bs) U d_read_digit
    have a_read_class := cReadClass U a_read_digit d_read_class
    have a_read_way := cReadWay U a_read_digit d_read_way
    have a_put_clause := cPutClause (P := P) (w := w) (base := bs) d_put_clause
    have a_read_clause := cReadClause U a_read_class a_read_way a_put_clause a_is_name d_read_clause
    have a_share_place := cSharePlace (P := P) (w := w) (base := bs) U d_share_place
    have a_fit_together := cFit U a_share_place d_fit_together
    have a_read_round := cReadRound U a_read_clause a_fit_together d_read_round
    have a_can_stand := cCanStand a_read_round d_can_stand
    have a_are_rounds := cAreRounds U a_read_round d_are_rounds
    have a_is_plan := cIsPlan U a_is_integer a_is_name a_is_goal a_are_rounds d_is_plan
    have a_check_plans := cCheckPlans U a_is_plan a_can_stand d_check_plans
    have a_check_book := cCkBX (P := P) (w := w) (base := bs) ic hno T at_ x4 d_check_book
    have a_check_pieces := cCpX ic kO T mpieces x6 a_is_piece d_check_pieces
    have a_goal_texts := cGtx T a_goal_span d_goal_texts
    have a_plan_text := cPlanText (P := P) (w := w) (base := bs) d_plan_text
    have a_law_cell := cCell (P := P) (w := w) (base := bs) T d_law_cell
    have a_law_purse := cPurse (P := P) (w := w) (base := bs) T d_law_purse
    have a_law_draw := cDraw (P := P) (w := w) (base := bs) T d_law_draw
    have a_law_pick := cPick T a_law_draw d_law_pick
    have a_law_tag := cTag T a_law_draw a_law_pick d_law_tag
    have a_law_tags := cTags T a_law_tag d_law_tags
    have a_law_goal := cGoal T a_law_draw d_law_goal
    have a_law_deed := cDeed T a_law_draw a_law_pick d_law_deed
    have a_law_overs := cOvers T a_law_draw d_law_overs
    have a_law_round := cRound T a_law_draw a_law_pick a_law_overs a_law_deed d_law_round
    have a_law_mates := cMates T a_law_draw a_law_tags a_law_goal a_law_round d_law_mates
    have a_law_clause := cClause (P := P) (w := w) (base := bs) T d_law_clause
    have a_law_line := cLnT T a_law_clause d_law_line
    have a_law_aim := cAim (P := P) (w := w) (base := bs) T d_law_aim
    have a_law_told := cTold T a_law_aim a_law_line d_law_told
    have a_law_pieces := cPs T a_law_draw a_law_pick d_law_pieces
    obtain ⟨f0, g0, F0, b0, i0⟩ := m_init.ex
    obtain ⟨p3, f3, g3, F3, o3⟩ := m_names.ex
    obtain ⟨f4, g4, F4, b4, i4⟩ := m_find_plan.ex
    obtain ⟨f5, g5, F5, b5, i5⟩ := m_plan.ex
    obtain ⟨f8, g8, F8, b8, i8⟩ := m_str.ex
    obtain ⟨f9, g9, F9, b9, i9⟩ := m_repr.ex
    have x00 := okInit (P := P) (w := w) (base := bs) F0 k a_check_plans
    have n0 : Mak P w K mg bs "Book" C "kept" 8 ["self", "plans"] M.Good := ⟨f0, g0, x00, ⟨mk, b0, i0, kc⟩, at_, F0.binds fun _ _ _ _ _ _ us hl => len2 us hl fun _ _ => rfl⟩
    have n3 : Prp P w K mg bs C "names" 1 (cnNames C) := ⟨p3, f3, g3, okNames T F3 k, o3, F3.binds fun _ _ _ _ _ _ us hl => len1 us hl fun _ => rfl⟩
    have n3' : NmF P w K mg bs C := ⟨p3, f3, g3, okNamesF T F3 k, o3, F3.binds fun _ _ _ _ _ _ us hl => len1 us hl fun _ => rfl⟩
    have n4 : MthX P w K mg bs C "find_plan" 3 ["self", "name"] (cnFindO C D7) := ⟨f4, g4, okFindO T F4 k ic kS n3 n3' x7, ⟨b4, i4, F4.kp⟩, F4.binds fun _ _ _ _ _ _ us hl => len2 us hl fun _ _ => rfl⟩
    have y5 := okPlanO (P := P) (w := w) (base := bs) F5 k n4
    have Yo : TelO P w K mg bs := ⟨fe, ge, okErrO bI bR Fe, me, Fe.kp, Fe.binds fun _ _ _ _ _ _ us hl => len1 us hl fun _ => rfl⟩
    have a_plan_of := cPlOX k (⟨f5, g5, y5, ⟨b5, i5, F5.kp⟩, F5.binds fun _ _ _ _ _ _ us hl => len2 us hl fun _ _ => rfl⟩ : MthX P w K mg bs C "plan" 4 ["self", "name"] (cnPlanO C D7)) a_check_book d_plan_of
    obtain ⟨e0, h0, E0, q0, j0⟩ := m_initR.ex
    obtain ⟨r4, e4, h4, W4, s4⟩ := m_wordsR.ex
    have x0 := okRowA (P := P) (w := w) (base := bs) (C := C) T E0 kR a_plan_of a_check_pieces a_goal_texts
    have Y' : CauO P w K mg bs U0 U1 U2 := ⟨Y.df, Y.rep, Yo, Y.m1, Y.m2, Y.m3⟩
    have B : Bk22 P w K mg bs C R D6 D4 D7 := ⟨k, n0, ⟨f8, g8, okStr F8 k a_plan_text, b8, i8, F8.binds fun _ _ _ _ _ _ us hl => len1 us hl fun _ => rfl⟩,
      ⟨⟨f9, g9, okRepr T F9 k, b9, i9, F9.binds fun _ _ _ _ _ _ us hl => len1 us hl fun _ => rfl⟩, ⟨f9, g9, okReprW T F9 k, b9, i9, F9.binds fun _ _ _ _ _ _ us hl => len1 us hl fun _ => rfl⟩⟩,
      ic, hno, kS, at_, ⟨e0, h0, x0, ⟨mkR, q0, j0, kcR⟩, atR, E0.binds fun _ _ _ _ _ _ us hl => len4 us hl fun _ _ _ _ => rfl⟩, kR, ⟨r4, e4, h4, okRW W4 kR, s4, W4.binds fun _ _ _ _ _ _ us hl => len1 us hl fun _ => rfl⟩⟩
    have a_asked := cAs T a_law_draw a_law_pick a_law_pieces Y' B E4 hm4 E7 hm7 E6 hm6 inB nsB L_law_asked d_law_asked
    have a_right := cRt T a_law_mates a_law_told a_asked B d_law_right
    exact gLawT (kr := 13) T a_law_cell a_law_purse a_right (fun p hp => ⟨_, ⟨0, p, rfl, ⟨rfl, hp⟩, rfl⟩, fun r μ' z => ⟨z.1, z.2.elim fun q e => ⟨q.ds, e⟩⟩⟩) F
end J
section
open PySem PySem.W PyProof.Rows
open_top hd for PySem.Challenge.rw_joinrounds_k22_errors_of_rows_in_order
end
open PySem PySem.W PyProof.Rows
set_option maxRecDepth 100000 in
set_option maxHeartbeats 0 in
theorem PySem.Challenge.cw_joinrounds_k22_errors_of_rows_in_order_holds : PySem.Challenge.rw_joinrounds_k22_errors_of_rows_in_order.Holds :=
  hd (by
  k_fill
  refine J.walkT (l := PySem.Challenge.rw_joinrounds_k22_errors_of_rows_in_order) (n := 63) (k := 16) (x := "_law_script") rfl (by decide) rfl ⟨rfl, by decide, by decide⟩ (fun w h Y => J.tabF_of Y (by kernel_rfl)) ?O ?F
  case O =>
    intro w
    kernel_rfl
  case F =>
    intro w mg fa h KX G hmg
    refine' J.end_of KX G hmg ?aC ?aU0 ?aU1 ?aU2 ?pg ?hd ?po ?sa ?nK ?mk ?kc ?iha ?ihn ?iht ?ihm ?tyC ?nsNon ?nrNon ?nsBl ?nrBl ?nsInt ?nrInt ?nsStr ?nrStr ?nsLst ?nrLst ?nsTup ?nrTup ?nsDic ?nrDic ?aR ?pgR ?hdR ?poR ?saR ?mkR ?kcR ?f0R ?f1R ?f2R ?f3R ?f4R ?f5R ?f6R ?kO ?kS (J.no_of KX G ?bR) (J.no_of KX G ?bI) ?aD4 ?ok4 ?ox4 ?rv4 ?ts4 ?ty4 ?kp4 ?iC4 ?tI4 (J.fi_mk ?li4 ?ci4 ?ki4) ?aD6 ?ok6 ?ox6 ?rv6 ?ts6 ?ty6 ?kp6 ?iC6 ?tI6 (J.fi_mk ?li6 ?ci6 ?ki6) ?aD7 ?ok7 ?ox7 ?rv7 ?ts7 ?ty7 ?kp7 ?iC7 ?tI7 (J.fi_mk ?li7 ?ci7 ?ki7) ⟨J.no_of KX G ?b0, J.no_of KX G ?b1, J.no_of KX G ?b2, J.no_of KX G ?b3, J.no_of KX G ?b4, J.no_of KX G ?b5, J.no_of KX G ?b6, J.no_of KX G ?b7, J.no_of KX G ?b8, J.no_of KX G ?b9, J.no_of KX G ?b10, J.no_of KX G ?b11, J.no_of KX G ?b12, J.no_of KX G ?b13, J.no_of KX G ?b14, J.no_of KX G ?b15⟩ (J.gx_of KX G ?g0) (J.gx_of KX G ?g1) (J.gx_of KX G ?g2) (J.gx_of KX G ?g3) (J.gx_of KX G ?g4) (J.gx_of KX G ?g5) (J.gx_of KX G ?g6) (J.gx_of KX G ?g7) (J.gx_of KX G ?g8) (J.gx_of KX G ?g9) (J.gx_of KX G ?g10) (J.gx_of KX G ?g11) (J.df_mk KX G ?a0 ?l0 ?c0 ?k0) (J.df_mk KX G ?a1 ?l1 ?c1 ?k1) (J.df_mk KX G ?a2 ?l2 ?c2 ?k2) (J.df_mk KX G ?a3 ?l3 ?c3 ?k3) (J.df_mk KX G ?a4 ?l4 ?c4 ?k4) (J.df_mk KX G ?a5 ?l5 ?c5 ?k5) (J.df_mk KX G ?a6 ?l6 ?c6 ?k6) (J.df_mk KX G ?a7 ?l7 ?c7 ?k7) (J.df_mk KX G ?a8 ?l8 ?c8 ?k8) (J.df_mk KX G ?a9 ?l9 ?c9 ?k9) (J.df_mk KX G ?a10 ?l10 ?c10 ?k10) (J.df_mk KX G ?a11 ?l11 ?c11 ?k11) (J.df_mk KX G ?a12 ?l12 ?c12 ?k12) (J.df_mk KX G ?a13 ?l13 ?c13 ?k13) (J.df_mk KX G ?a14 ?l14 ?c14 ?k14) (J.df_mk KX G ?a15 ?l15 ?c15 ?k15) (J.df_mk KX G ?a16 ?l16 ?c16 ?k16) (J.df_mk KX G ?a17 ?l17 ?c17 ?k17) (J.df_mk KX G ?a18 ?l18 ?c18 ?k18) (J.df_mk KX G ?a19 ?l19 ?c19 ?k19) (J.df_mk KX G ?a20 ?l20 ?c20 ?k20) (J.df_mk KX G ?a21 ?l21 ?c21 ?k21) (J.df_mk KX G ?a22 ?l22 ?c22 ?k22) (J.df_mk KX G ?a23 ?l23 ?c23 ?k23) (J.df_mk KX G ?a24 ?l24 ?c24 ?k24) (J.df_mk KX G ?a25 ?l25 ?c25 ?k25) (J.df_mk KX G ?a26 ?l26 ?c26 ?k26) (J.df_mk KX G ?a27 ?l27 ?c27 ?k27) (J.df_mk KX G ?a28 ?l28 ?c28 ?k28) (J.df_mk KX G ?a29 ?l29 ?c29 ?k29) (J.df_mk KX G ?a30 ?l30 ?c30 ?k30) (J.df_mk KX G ?a31 ?l31 ?c31 ?k31) (J.df_mk KX G ?a32 ?l32 ?c32 ?k32) (J.df_mk KX G ?a33 ?l33 ?c33 ?k33) (J.df_mk KX G ?a34 ?l34 ?c34 ?k34) (J.df_mk KX G ?a35 ?l35 ?c35 ?k35) (J.df_mk KX G ?a36 ?l36 ?c36 ?k36) (J.df_mk KX G ?a37 ?l37 ?c37 ?k37) (J.df_mk KX G ?a38 ?l38 ?c38 ?k38) (J.df_mk KX G ?a39 ?l39 ?c39 ?k39) (J.df_mk KX G ?a40 ?l40 ?c40 ?k40) (J.df_mk KX G ?a41 ?l41 ?c41 ?k41) (J.df_mk KX G ?a42 ?l42 ?c42 ?k42) (J.df_mk KX G ?a43 ?l43 ?c43 ?k43) (J.mf_mk ?a44 ?i44 ?l44 ?c44 ?k44) (J.mf_mk ?a45 ?i45 ?l45 ?c45 ?k45) (J.mf_mk ?a46 ?i46 ?l46 ?c46 ?k46) (J.mf_mk ?a47 ?i47 ?l47 ?c47 ?k47) (J.mf_mk ?a48 ?i48 ?l48 ?c48 ?k48) (J.pf_mk ?a49 ?pg49 ?t49 ?r49 ?l49 ?c49 ?k49) (J.mf_mk ?a50 ?i50 ?l50 ?c50 ?k50) (J.pf_mk ?a51 ?pg51 ?t51 ?r51 ?l51 ?c51 ?k51) ?t_law_asked
    (case aC => k_is); (case aU0 => k_is); (case aU1 => k_is); (case aU2 => k_is); (case pg => k_is); (case hd => k_is)
    (case po => k_is); (case sa => k_is); (case nK => k_is); (case mk => k_is); (case kc => k_is); (case iha => k_is)
    (case ihn => k_is); (case iht => k_is); (case ihm => k_is); (case tyC => k_is); (case nsNon => k_is); (case nrNon => k_is)
    (case nsBl => k_is); (case nrBl => k_is); (case nsInt => k_is); (case nrInt => k_is); (case nsStr => k_is); (case nrStr => k_is)
    (case nsLst => k_is); (case nrLst => k_is); (case nsTup => k_is); (case nrTup => k_is); (case nsDic => k_is); (case nrDic => k_is)
    (case aR => k_is); (case pgR => k_is); (case hdR => k_is); (case poR => k_is); (case saR => k_is); (case mkR => k_is)
    (case kcR => k_is); (case f0R => k_is); (case f1R => k_is); (case f2R => k_is); (case f3R => k_is); (case f4R => k_is)
    (case f5R => k_is); (case f6R => k_is); (case bR => k_is); (case bI => k_is); (case aD4 => k_is); (case ox4 => k_is)
    (case ts4 => k_is); (case ty4 => k_is); (case kp4 => k_is); (case iC4 => k_is); (case tI4 => k_is); (case li4 => k_is)
    (case ci4 => k_is); (case ki4 => k_is); (case aD6 => k_is); (case ox6 => k_is); (case ts6 => k_is); (case ty6 => k_is)
    (case kp6 => k_is); (case iC6 => k_is); (case tI6 => k_is); (case li6 => k_is); (case ci6 => k_is); (case ki6 => k_is)
    (case aD7 => k_is); (case ox7 => k_is); (case ts7 => k_is); (case ty7 => k_is); (case kp7 => k_is); (case iC7 => k_is)
    (case tI7 => k_is); (case li7 => k_is); (case ci7 => k_is); (case ki7 => k_is); (case b0 => k_is); (case b1 => k_is)
    (case b2 => k_is); (case b3 => k_is); (case b4 => k_is); (case b5 => k_is); (case b6 => k_is); (case b7 => k_is)
    (case b8 => k_is); (case b9 => k_is); (case b10 => k_is); (case b11 => k_is); (case b12 => k_is); (case b13 => k_is)
    (case b14 => k_is); (case b15 => k_is); (case g0 => k_is); (case g1 => k_is); (case g2 => k_is); (case g3 => k_is)
    (case g4 => k_is); (case g5 => k_is); (case g6 => k_is); (case g7 => k_is); (case g8 => k_is); (case g9 => k_is)
    (case g10 => k_is); (case g11 => k_is); (case a0 => k_is); (case l0 => k_is); (case c0 => k_is); (case k0 => k_is)
    (case a1 => k_is); (case l1 => k_is); (case c1 => k_is); (case k1 => k_is); (case a2 => k_is); (case l2 => k_is)
    (case c2 => k_is); (case k2 => k_is); (case a3 => k_is); (case l3 => k_is); (case c3 => k_is); (case k3 => k_is)
    (case a4 => k_is); (case l4 => k_is); (case c4 => k_is); (case k4 => k_is); (case a5 => k_is); (case l5 => k_is)
    (case c5 => k_is); (case k5 => k_is); (case a6 => k_is); (case l6 => k_is); (case c6 => k_is); (case k6 => k_is)
    (case a7 => k_is); (case l7 => k_is); (case c7 => k_is); (case k7 => k_is); (case a8 => k_is); (case l8 => k_is)
    (case c8 => k_is); (case k8 => k_is); (case a9 => k_is); (case l9 => k_is); (case c9 => k_is); (case k9 => k_is)
    (case a10 => k_is); (case l10 => k_is); (case c10 => k_is); (case k10 => k_is); (case a11 => k_is); (case l11 => k_is)
    (case c11 => k_is); (case k11 => k_is); (case a12 => k_is); (case l12 => k_is); (case c12 => k_is); (case k12 => k_is)
    (case a13 => k_is); (case l13 => k_is); (case c13 => k_is); (case k13 => k_is); (case a14 => k_is); (case l14 => k_is)
    (case c14 => k_is); (case k14 => k_is); (case a15 => k_is); (case l15 => k_is); (case c15 => k_is); (case k15 => k_is)
    (case a16 => k_is); (case l16 => k_is); (case c16 => k_is); (case k16 => k_is); (case a17 => k_is); (case l17 => k_is)
    (case c17 => k_is); (case k17 => k_is); (case a18 => k_is); (case l18 => k_is); (case c18 => k_is); (case k18 => k_is)
    (case a19 => k_is); (case l19 => k_is); (case c19 => k_is); (case k19 => k_is); (case a20 => k_is); (case l20 => k_is)
    (case c20 => k_is); (case k20 => k_is); (case a21 => k_is); (case l21 => k_is); (case c21 => k_is); (case k21 => k_is)
    (case a22 => k_is); (case l22 => k_is); (case c22 => k_is); (case k22 => k_is); (case a23 => k_is); (case l23 => k_is)
    (case c23 => k_is); (case k23 => k_is); (case a24 => k_is); (case l24 => k_is); (case c24 => k_is); (case k24 => k_is)
    (case a25 => k_is); (case l25 => k_is); (case c25 => k_is); (case k25 => k_is); (case a26 => k_is); (case l26 => k_is)
    (case c26 => k_is); (case k26 => k_is); (case a27 => k_is); (case l27 => k_is); (case c27 => k_is); (case k27 => k_is)
    (case a28 => k_is); (case l28 => k_is); (case c28 => k_is); (case k28 => k_is); (case a29 => k_is); (case l29 => k_is)
    (case c29 => k_is); (case k29 => k_is); (case a30 => k_is); (case l30 => k_is); (case c30 => k_is); (case k30 => k_is)
    (case a31 => k_is); (case l31 => k_is); (case c31 => k_is); (case k31 => k_is); (case a32 => k_is); (case l32 => k_is)
    (case c32 => k_is); (case k32 => k_is); (case a33 => k_is); (case l33 => k_is); (case c33 => k_is); (case k33 => k_is)
    (case a34 => k_is); (case l34 => k_is); (case c34 => k_is); (case k34 => k_is); (case a35 => k_is); (case l35 => k_is)
    (case c35 => k_is); (case k35 => k_is); (case a36 => k_is); (case l36 => k_is); (case c36 => k_is); (case k36 => k_is)
    (case a37 => k_is); (case l37 => k_is); (case c37 => k_is); (case k37 => k_is); (case a38 => k_is); (case l38 => k_is)
    (case c38 => k_is); (case k38 => k_is); (case a39 => k_is); (case l39 => k_is); (case c39 => k_is); (case k39 => k_is)
    (case a40 => k_is); (case l40 => k_is); (case c40 => k_is); (case k40 => k_is); (case a41 => k_is); (case l41 => k_is)
    (case c41 => k_is); (case k41 => k_is); (case a42 => k_is); (case l42 => k_is); (case c42 => k_is); (case k42 => k_is)
    (case a43 => k_is); (case l43 => k_is); (case c43 => k_is); (case k43 => k_is); (case a44 => k_is); (case i44 => k_is)
    (case l44 => k_is); (case c44 => k_is); (case k44 => k_is); (case a45 => k_is); (case i45 => k_is); (case l45 => k_is)
    (case c45 => k_is); (case k45 => k_is); (case a46 => k_is); (case i46 => k_is); (case l46 => k_is); (case c46 => k_is)
    (case k46 => k_is); (case a47 => k_is); (case i47 => k_is); (case l47 => k_is); (case c47 => k_is); (case k47 => k_is)
    (case a48 => k_is); (case i48 => k_is); (case l48 => k_is); (case c48 => k_is); (case k48 => k_is); (case a49 => k_is)
    (case pg49 => k_is); (case t49 => k_is); (case r49 => k_is); (case l49 => k_is); (case c49 => k_is); (case k49 => k_is)
    (case a50 => k_is); (case i50 => k_is); (case l50 => k_is); (case c50 => k_is); (case k50 => k_is); (case a51 => k_is)
    (case pg51 => k_is); (case t51 => k_is); (case r51 => k_is); (case l51 => k_is); (case c51 => k_is); (case k51 => k_is)
    (case kO => kernel_rfl)
    (case kS => kernel_rfl)
    (case ok4 => kernel_rfl)
    (case rv4 => kernel_rfl)
    (case ok6 => kernel_rfl)
    (case rv6 => kernel_rfl)
    (case ok7 => kernel_rfl)
    (case rv7 => kernel_rfl)
    (case t_law_asked => kernel_rfl))
