package vault_test

import (
	"testing"

	"toponym/api"
	"toponym/sector"
	"toponym/vault"
)

// working is a call of a vault's that may meet lost power.
type working struct {
	name string
	do   func(v *vault.Vault) api.Errno
}

func appending(name, record string) working {
	return working{"Append of " + name, func(v *vault.Vault) api.Errno { return v.Append(record) }}
}

func renewing(name, image string) working {
	return working{"Renew of " + name, func(v *vault.Vault) api.Errno { return v.Renew(image) }}
}

func syncing() working {
	return working{"Sync", func(v *vault.Vault) api.Errno { return v.Sync() }}
}

// workings have what would go wrong otherwise, too, in a vault of four frames
// and an epoch that is the last one.
func workings() []working {
	return []working{
		appending("a byte", "a"),
		appending("all that is left", text(1, 124)),
		appending("no bytes", ""),
		appending("more than is left", text(1, 125)),
		appending("more than MaxImage", text(1, api.MaxImage+1)),
		syncing(),
		renewing("a byte", "a"),
		renewing("no bytes", ""),
		renewing("all of a bank", text(1, 248)),
		renewing("more than a bank", text(1, 249)),
		renewing("more than MaxImage", text(1, api.MaxImage+1)),
	}
}

// lastEpoch is a device whose vault has room for two frames.
func lastEpoch(t *testing.T) *sector.Device {
	t.Helper()
	return with(t, spread(11, of(1, "other"), of(1<<63, "image", "a")))
}

// P8.2: where power is gone each call is ErrLost, whatever else is wrong with
// it, and the vault is over; what it has is told on.
func TestLost(t *testing.T) {
	for _, w := range workings() {
		d := lastEpoch(t)
		v := open(t, d)
		d.Cut(0)
		expect(t, w.name, w.do(v), api.ErrLost)
		expectOver(t, v, 2, "image", "a")
		expectPending(t, d, 0)
		expectNoOpen(t, d, api.ErrLost)
		d.Restart()
		expectOver(t, v, 2, "image", "a")
		expectVault(t, open(t, d), 2, "image", "a")
	}
}

// P8.2: a vault that is over stays so behind a restart, and touches the device
// no more; one that is opened then goes on.
func TestOverStays(t *testing.T) {
	for _, first := range workings() {
		d := lastEpoch(t)
		v := open(t, d)
		add(t, d, v, "b")
		d.Cut(0)
		expect(t, first.name, first.do(v), api.ErrLost)
		d.Restart(0)
		sectors := sectorsOf(d)
		for _, w := range workings() {
			expect(t, w.name+" behind a restart", w.do(v), api.ErrLost)
			expectOver(t, v, 1, "image", "a", "b")
		}
		expectSectors(t, d, sectors)
		expectPending(t, d, 0)
		other := open(t, d)
		expectVault(t, other, 1, "image", "a", "b")
		add(t, d, other, "c")
		for _, w := range workings() {
			expect(t, w.name+" behind another's Open", w.do(v), api.ErrLost)
		}
		expectPending(t, d, 1)
		expectOver(t, v, 1, "image", "a", "b")
		expectVault(t, other, 0, "image", "a", "b", "c")
	}
}

// P8.2: what goes wrong otherwise leaves a vault that isn't over.
func TestNotOver(t *testing.T) {
	d := lastEpoch(t)
	v := open(t, d)
	expectNoAppend(t, d, v, "", api.ErrLong)
	expectNoAppend(t, d, v, text(1, api.MaxImage+1), api.ErrLong)
	expectNoAppend(t, d, v, text(1, 125), api.ErrFull)
	expectNoRenew(t, d, v, "", api.ErrLong)
	expectNoRenew(t, d, v, text(1, api.MaxImage+1), api.ErrLong)
	expectNoRenew(t, d, v, text(1, 249), api.ErrFull)
	expectNoRenew(t, d, v, text(1, 248), api.ErrMany)
	add(t, d, v, "b")
	expectNoAppend(t, d, v, text(1, 63), api.ErrFull)
	sync(t, d, v)
	expectVault(t, v, 1, "image", "a", "b")
}

// P8.2: who only tells what the vault has meets no lost power: it is over with
// the call that does.
func TestToldWithoutPower(t *testing.T) {
	d, v := fresh(t, 10, "image")
	add(t, d, v, "a")
	d.Cut(0)
	expectVault(t, v, 2, "image", "a")
	expect(t, "Sync", v.Sync(), api.ErrLost)
	expectOver(t, v, 2, "image", "a")
}

// P8.2: an Append whose last frame was the last write that was left has met no
// lost power; one of a frame more has, and has no record then.
func TestAppendLost(t *testing.T) {
	for n := 1; n <= 4; n++ {
		d, v := fresh(t, 16, "image")
		d.Cut(n)
		if err := v.Append(text(1, n*62)); err != api.OK {
			t.Errorf("Append of %d frames = %d, where as many writes are left", n, err)
		}
		expectVault(t, v, 6-n, "image", text(1, n*62))
		expect(t, "Sync", v.Sync(), api.ErrLost)
		expectOver(t, v, 6-n, "image", text(1, n*62))

		d, v = fresh(t, 16, "image")
		d.Cut(n)
		expect(t, "Append", v.Append(text(1, n*62+1)), api.ErrLost)
		expectOver(t, v, 6, "image")
		expectPending(t, d, n)
		d.Restart(0, 1, 2, 3)
		expectVault(t, open(t, d), 6, "image")
		expectSectors(t, d, spread(16, of(1, "image"), of(0)))
	}
}

// P8.2: a Sync takes no write.
func TestSyncTakesNoWrite(t *testing.T) {
	d, v := fresh(t, 10, "image")
	d.Cut(1)
	sync(t, d, v)
	add(t, d, v, "a")
	expect(t, "Sync", v.Sync(), api.ErrLost)
	expectOver(t, v, 2, "image", "a")
	d.Restart(0)
	expectVault(t, open(t, d), 2, "image", "a")
}
