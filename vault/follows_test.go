package vault_test

import (
	"fmt"
	"slices"
	"testing"

	"toponym/api"
	"toponym/sector"
	"toponym/vault"
)

// chosen are the numbers of a subset's members.
func chosen(subset, count int) []int {
	var l []int
	for n := range count {
		if subset>>n&1 == 1 {
			l = append(l, n)
		}
	}
	return l
}

// known is what is known of a vault: its records, up to those that were synced,
// are there behind any crash, or the next image is, where a Renew was cut off.
type known struct {
	image   string
	records []string
	synced  int
	next    string
}

func (k known) allows(v *vault.Vault) bool {
	if k.next != "" && v.Image() == k.next && len(v.Records()) == 0 {
		return true
	}
	l := v.Records()
	return v.Image() == k.image && len(l) >= k.synced && len(l) <= len(k.records) && slices.Equal(l, k.records[:len(l)])
}

// call is one of a row, and what is known behind it.
type call func(v *vault.Vault, k *known) api.Errno

func appendCall(record string) call {
	return func(v *vault.Vault, k *known) api.Errno {
		err := v.Append(record)
		if err == api.OK {
			k.records = append(k.records, record)
		}
		return err
	}
}

func syncCall() call {
	return func(v *vault.Vault, k *known) api.Errno {
		err := v.Sync()
		if err == api.OK {
			k.synced = len(k.records)
		}
		return err
	}
}

func renewCall(image string) call {
	return func(v *vault.Vault, k *known) api.Errno {
		err := v.Renew(image)
		if err == api.OK {
			*k = known{image: image}
		} else {
			k.next = image
		}
		return err
	}
}

// play does a row up to where power goes, and tells whether it does.
func play(t *testing.T, d *sector.Device, calls []call, writes int) (known, bool) {
	t.Helper()
	v := open(t, d)
	k := known{image: v.Image(), records: v.Records(), synced: len(v.Records())}
	d.Cut(writes)
	for _, do := range calls {
		switch err := do(v, &k); err {
		case api.OK:
		case api.ErrLost:
			return k, true
		default:
			t.Fatalf("a call = %d", err)
		}
	}
	return k, d.Flush() == api.ErrLost
}

// row is a device, and calls that are done to its vault.
type row struct {
	name    string
	sectors []string
	calls   []call
}

func rows() []row {
	new := spread(20, of(1, "image"), of(0))
	used := spread(20, held{head(6), frames("older", text(5, 80), "x", text(6, 100))}, of(7, text(1, 70), "old", text(2, 65)))
	return []row{
		{"appended", new, []call{
			appendCall("a"), appendCall(text(3, 150)), appendCall(text(4, 62)), appendCall("b"),
		}},
		{"synced between", new, []call{
			appendCall("a"), appendCall(text(3, 100)), syncCall(), appendCall(text(4, 100)), appendCall("b"), syncCall(), appendCall("c"),
		}},
		{"renewed", new, []call{
			appendCall("a"), syncCall(), appendCall(text(3, 100)), renewCall(text(4, 130)), appendCall("b"), appendCall(text(5, 70)),
		}},
		{"renewed where there was another", used, []call{
			appendCall("a"), appendCall("b"), renewCall(text(4, 70)),
		}},
		{"renewed twice", new, []call{
			appendCall("a"), renewCall("two"), appendCall(text(3, 70)), syncCall(), appendCall("b"), renewCall(text(4, 63)), appendCall("c"), syncCall(), appendCall("d"),
		}},
		{"renewed in a row", used, []call{
			renewCall("two"), renewCall("three"), renewCall("four"), appendCall("a"),
		}},
		{"equal epochs", spread(12, of(3, "image", "a"), of(3, "other", "b")), []call{
			appendCall("c"), renewCall("two"), appendCall("d"), renewCall("three"),
		}},
		{"the last epoch", spread(12, of(1<<63-1, "image", "a"), of(0)), []call{
			appendCall("c"), renewCall("two"), appendCall("d"), syncCall(),
		}},
	}
}

// expectKnown opens again, and goes on: what stands then stays.
func expectKnown(t *testing.T, d *sector.Device, k known) {
	t.Helper()
	v := open(t, d)
	if !k.allows(v) {
		t.Errorf("opened again: %q, %q; want what is known, %+v", v.Image(), v.Records(), k)
	}
	expectPending(t, d, 0)
	again := open(t, d)
	expectVault(t, again, v.Room(), v.Image(), v.Records()...)
	if v.Room() == 0 {
		return
	}
	add(t, d, again, "behind")
	sync(t, d, again)
	expectVault(t, open(t, d), v.Room()-1, v.Image(), append(v.Records(), "behind")...)
}

// crashed does something with a row's device behind each crash: power goes at
// any write, and of what is pending then each subset is kept.
func crashed(t *testing.T, r row, do func(d *sector.Device, k known)) {
	t.Helper()
	for writes, lost := 0, true; lost; writes++ {
		for subset, count := 0, 1; subset < count; subset++ {
			d := with(t, r.sectors)
			k, gone := play(t, d, r.calls, writes)
			lost, count = gone, 1<<d.Pending()
			d.Restart(chosen(subset, d.Pending())...)
			do(d, k)
			if t.Failed() {
				t.Fatalf("%s: power goes behind %d writes, and of what is pending %b is kept", r.name, writes, subset)
			}
		}
	}
}

// P8.3: what stands behind each crash of each row.
func TestBeginningStands(t *testing.T) {
	for _, r := range rows() {
		crashed(t, r, func(d *sector.Device, k known) {
			expectKnown(t, d, k)
		})
	}
}

// P8.3: power goes again, at any write of the Open behind a crash, and all
// subsets of what that leaves pending: what it would have opened is there.
func TestOpenCutOff(t *testing.T) {
	for _, r := range rows()[:4] {
		crashed(t, r, func(d *sector.Device, k known) {
			sectors := sectorsOf(d)
			want := open(t, d)
			for writes, lost := 0, true; lost; writes++ {
				for subset, count := 0, 1; subset < count; subset++ {
					d := with(t, sectors)
					d.Cut(writes)
					_, err := vault.Open(d)
					lost, count = err == api.ErrLost, 1<<d.Pending()
					d.Restart(chosen(subset, d.Pending())...)
					expectVault(t, open(t, d), want.Room(), want.Image(), want.Records()...)
					expectKnown(t, d, k)
				}
			}
		})
	}
}

// told is what a device has: what Open tells of it.
func told(d *sector.Device) string {
	v, err := vault.Open(d)
	if err != api.OK {
		return fmt.Sprint(err)
	}
	return fmt.Sprintf("%q %q", v.Image(), v.Records())
}

// P8.3: power goes at any write of a Format of what was no vault: there is none
// till its head is kept, and then it is whole.
func TestFormatCutOff(t *testing.T) {
	image := text(1, 100)
	whole, none := fmt.Sprintf("%q []", image), fmt.Sprint(api.ErrForm)
	junk := spread(12, held{mark(0), []string{mark(1), noughts(), framed(3, "abc")}}, held{mark(6), frames("a", "b")})
	seen := map[string]int{}
	for writes, lost := 0, true; lost; writes++ {
		for subset, count := 0, 1; subset < count; subset++ {
			d := with(t, junk)
			d.Cut(writes)
			lost, count = vault.Format(d, image) == api.ErrLost, 1<<d.Pending()
			signed := !lost || writes == 9 && subset == 1
			d.Restart(chosen(subset, d.Pending())...)
			got := told(d)
			seen[got]++
			if got != whole && got != none || (got == whole) != signed {
				t.Errorf("power goes behind %d writes, %b is kept: %s", writes, subset, got)
			}
			format(t, d, "again")
			expectVault(t, open(t, d), 4, "again")
		}
	}
	if seen[whole] != 2 || seen[none] == 0 {
		t.Errorf("%v", seen)
	}
}

// P8.3: power goes at any write of a Format of a vault: as long as a head is
// kept its bank stands as it was, and behind the flush nothing does, till the
// new one is whole.
func TestFormatOfAVaultCutOff(t *testing.T) {
	whole, none := fmt.Sprintf("%q []", "new"), fmt.Sprint(api.ErrForm)
	older, old := fmt.Sprintf("%q %q", "older", []string{"x"}), fmt.Sprintf("%q %q", "old", []string{"a", "b"})
	sectors := spread(12, of(4, "older", "x"), of(5, "old", "a", "b"))
	const heads, all = 2, 2 + 5 + 1 + 1
	for writes, lost := 0, true; lost; writes++ {
		for subset, count := 0, 1; subset < count; subset++ {
			d := with(t, sectors)
			d.Cut(writes)
			lost, count = vault.Format(d, "new") == api.ErrLost, 1<<d.Pending()
			want := none
			switch {
			case writes <= heads && subset&2 == 0:
				want = old
			case writes <= heads && subset&1 == 0:
				want = older
			case !lost || writes == all && subset == 1:
				want = whole
			}
			d.Restart(chosen(subset, d.Pending())...)
			if got := told(d); got != want {
				t.Errorf("power goes behind %d writes, %b is kept: %s; want %s", writes, subset, got, want)
			}
		}
	}
}

// P8.3: many rows, whose calls, power and losses a small sum picks, with crash
// behind crash.
func TestCrashBehindCrash(t *testing.T) {
	draw := drawer()
	for range 300 {
		d := sector.New(6 + draw(20))
		format(t, d, "image")
		k := known{image: "image"}
		for n := range 12 {
			v := open(t, d)
			if !k.allows(v) {
				t.Fatalf("opened: %q, %q; want what is known, %+v", v.Image(), v.Records(), k)
			}
			k = known{image: v.Image(), records: v.Records(), synced: len(v.Records())}
			d.Cut(draw(25))
			for m := 0; !v.Over(); m++ {
				drawn(draw, 100*n+m)(v, &k)
			}
			kept := chosen(draw(1<<15), min(d.Pending(), 15))
			if draw(4) == 0 {
				kept = nil
			}
			d.Restart(kept...)
		}
	}
}

// drawn may have no room: then it changes nothing.
func drawn(draw func(int) int, seed int) call {
	switch draw(6) {
	case 0:
		return renewOrNot(text(seed, 1+draw(150)))
	case 1:
		return syncCall()
	default:
		return appendCall(text(seed, 1+draw(130)))
	}
}

func renewOrNot(image string) call {
	return func(v *vault.Vault, k *known) api.Errno {
		was := *k
		err := renewCall(image)(v, k)
		if err == api.ErrFull {
			*k = was
		}
		return err
	}
}
