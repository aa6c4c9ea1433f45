/-
  The program's calls, as the laws want them.
-/
import Derived.Test.YtlckconhhhllkaaTTick
namespace Go.Proofs.Ytlckconhhhllkaa
open Go.RowKit Go.Maps

theorem ifc : Ifc TaF where
  ok := fun ⟨_, h⟩ => h.2.1
  bel := fun ⟨_, h⟩ => h.2.2.2.2
  over := fun ⟨B, h1, h2, h3, h4, h5⟩ hb => ⟨B, h1.over hb, h2, h3, h4, h5.trans (hb.mono h5.size)⟩
  frr := fun ⟨B, h1, h2, h3, h4, h5⟩ hf ht => ⟨B, h1.fr hf ht (by simp) (by simp), h2, h3, h4, h5.trans hf.bel⟩
  new := fun {w W a b c} hb h1 h2 => (new_any W a b c h1).mono fun _ _ ⟨p, B, hp, hB, he, ht, hw⟩ => ⟨p, he, ⟨B, ht, Ok.new h1 h2, Nat.le_trans hb.size hp, Nat.le_trans hb.size hB, hb.trans (hw.mono hb.size)⟩, hw⟩
  newNot := fun {W a b c} h => (new_not W a b c h).mono fun _ _ ⟨he, hw⟩ => ⟨he, hw ▸ Below.refl _ _⟩
  add := fun {w W p s t} ⟨B, h1, h2, h3, h4, h5⟩ => (add_any W p B s t h1 h2).mono fun _ _ ⟨he, hr⟩ => tld h1 h3 h4 h5 he hr (h2.add t)
  send := fun {w W p s} ⟨B, h1, h2, h3, h4, h5⟩ => (send_any W p B s h1 h2).mono fun _ _ ⟨he, hr⟩ => tld h1 h3 h4 h5 he hr h2.send
  reply := fun {w W p s ep id k v} _ hi ⟨B, h1, h2, h3, h4, h5⟩ => (reply_any W p B s ep id k v h1 h2 hi).mono fun _ _ ⟨he, hr⟩ => tld h1 h3 h4 h5 he hr (h2.reply ep id k v)
  kill := fun {w W p s t} ⟨B, h1, h2, h3, h4, h5⟩ => (kill_call W p B s t h1 h2).mono fun _ _ ⟨he, hr⟩ => tld h1 h3 h4 h5 he hr (h2.kill t)
  tick := fun {w W p s} ⟨B, h1, h2, h3, h4, h5⟩ => (tick_call W p B s h1 h2).mono fun _ _ ⟨v, ho, he, hr⟩ => ⟨v, ho, tld h1 h3 h4 h5 he hr h2.tick⟩
  rise := fun {w W p s ep} hep ⟨B, h1, h2, h3, h4, h5⟩ => (rise_call W p B s ep h1 h2).mono fun _ _ ⟨he, hr⟩ => tld h1 h3 h4 h5 he hr (h2.rise hep)
  drop := fun {w W p s} ⟨B, h1, h2, h3, h4, h5⟩ => (drop_call W p B s h1 h2.up h2.u64 h2.len8).mono fun _ _ ⟨he, hr⟩ => tld h1 h3 h4 h5 he hr h2.drop
  valid := fun {w W p s id} hi ⟨B, h1, h2, h3, h4, h5⟩ => (valid_any W p B s id h1 hi).mono fun _ _ ⟨he, hr⟩ => tld h1 h3 h4 h5 he (by rw [hr]; exact Rs.below h1 (Below.refl _ _)) h2
  ended := fun {w W p s t} ⟨B, h1, h2, h3, h4, h5⟩ => (ended_any W p B s t h1 h2).mono fun _ _ ⟨he, hr⟩ => tld h1 h3 h4 h5 he hr (h2.end' t)
  get := fun {w W p s id} hi ⟨B, h1, h2, h3, h4, h5⟩ => (get_any W p B s id h1 hi).mono fun _ _ ⟨he, hr⟩ => tld h1 h3 h4 h5 he (Rs.below h1 hr) h2
  many := fun {w W p s} ⟨B, h1, h2, h3, h4, h5⟩ => (many_any W p B s h1).mono fun _ _ ⟨he, hr⟩ => tld h1 h3 h4 h5 he (by rw [hr]; exact Rs.below h1 (Below.refl _ _)) h2
  epoch := fun {w W p s} ⟨B, h1, h2, h3, h4, h5⟩ => (epoch_any W p B s h1).mono fun _ _ ⟨he, hr⟩ => tld h1 h3 h4 h5 he (by rw [hr]; exact Rs.below h1 (Below.refl _ _)) h2

end Go.Proofs.Ytlckconhhhllkaa
