package store_test

import (
	"slices"
	"testing"

	"toponym/api"
	"toponym/deed"
	"toponym/image"
	"toponym/sector"
	"toponym/store"
	"toponym/tree"
	"toponym/vault"
)

// ruled says the chapter over again: its tree is always told from the deeds
// that were done behind the image that was found.
type ruled struct {
	v     *vault.Vault
	found string
	deeds []deed.Deed
}

func (r *ruled) tree() *tree.Tree {
	tr, err := image.Decode(r.found)
	if err != api.OK {
		panic("no tree's image")
	}
	for _, d := range r.deeds {
		called(tr, d)
	}
	return tr
}

func ruledFormat(d *sector.Device) api.Errno {
	return vault.Format(d, rootAlone)
}

func ruledMount(d *sector.Device) (*ruled, api.Errno) {
	v, err := vault.Open(d)
	if err != api.OK {
		return nil, err
	}
	r := &ruled{v: v, found: v.Image()}
	tr, err := image.Decode(r.found)
	if err != api.OK {
		return nil, api.ErrForm
	}
	for _, record := range v.Records() {
		one, err := deed.Decode(record)
		if err != api.OK {
			return nil, api.ErrForm
		}
		if _, err := called(tr, one); err != api.OK {
			return nil, api.ErrForm
		}
		r.deeds = append(r.deeds, one)
	}
	return r, api.OK
}

func (r *ruled) do(d deed.Deed) (int, api.Errno) {
	if r.v.Over() {
		return 0, api.ErrLost
	}
	b, err := deed.Encode(d)
	if err != api.OK {
		return 0, err
	}
	as := r.tree()
	n, err := called(as.Clone(), d)
	if err != api.OK {
		return 0, err
	}
	room, power := r.v.Room() >= framesOf(len(b)), r.v.Append(b)
	if !room && power == api.ErrFull {
		if err := r.v.Renew(image.Encode(as)); err != api.OK {
			return 0, err
		}
		power = r.v.Append(b)
	}
	if power != api.OK {
		return 0, power
	}
	r.deeds = append(r.deeds, d)
	return n, api.OK
}

// pair is a store, and what the chapter says of it; both are nil till one was
// mounted.
type pair struct {
	d, e *sector.Device
	s    *store.Store
	r    *ruled
}

func (p *pair) expect(t *testing.T) {
	t.Helper()
	expectPending(t, p.d, p.e.Pending())
	if l, want := sectorsOf(p.d), sectorsOf(p.e); !slices.Equal(l, want) {
		t.Errorf("sectors % x; want % x", l, want)
	}
	if p.s == nil {
		return
	}
	if got, want := p.s.Room(), p.r.v.Room(); got != want {
		t.Errorf("Room() = %d; want %d", got, want)
	}
	if got, want := p.s.Over(), p.r.v.Over(); got != want {
		t.Errorf("Over() = %t; want %t", got, want)
	}
	if got, want := p.s.Tree(), p.r.tree(); !tree.Same(got, want) {
		t.Errorf("the tree has the image % x; want % x", image.Encode(got), image.Encode(want))
	}
}

// turn is one of a row: it is done to both.
type turn struct {
	name string
	do   func(t *testing.T, p *pair)
}

func turnFormat() turn {
	return turn{"Format", func(t *testing.T, p *pair) {
		expect(t, "Format", store.Format(p.d), ruledFormat(p.e))
	}}
}

func turnMount() turn {
	return turn{"Mount", func(t *testing.T, p *pair) {
		s, err := store.Mount(p.d)
		r, want := ruledMount(p.e)
		expect(t, "Mount", err, want)
		if (s == nil) != (r == nil) {
			t.Fatalf("Mount = a store: %t, %d", s != nil, err)
		}
		if s != nil {
			p.s, p.r = s, r
		}
	}}
}

func turnDo(name string, d deed.Deed) turn {
	return turn{"Do of " + name, func(t *testing.T, p *pair) {
		if p.s == nil {
			return
		}
		n, err := p.s.Do(d)
		want, wantErr := p.r.do(d)
		expect(t, "Do", err, wantErr)
		if n != want {
			t.Errorf("Do tells %d; want %d", n, want)
		}
	}}
}

// turnDrawn hangs on the tree that is there by then.
func turnDrawn(draw func(below int) int) turn {
	return turn{"Do of any", func(t *testing.T, p *pair) {
		if p.s != nil {
			d := drawnDeed(draw, p.s.Tree())
			turnDo("", d).do(t, p)
			if t.Failed() {
				t.Logf("%#v", d)
			}
		}
	}}
}

func turnSync() turn {
	return turn{"Sync", func(t *testing.T, p *pair) {
		if p.s != nil {
			expect(t, "Sync", p.s.Sync(), p.r.v.Sync())
		}
	}}
}

func turnCut(writes int) turn {
	return turn{"Cut", func(t *testing.T, p *pair) {
		p.d.Cut(writes)
		p.e.Cut(writes)
	}}
}

func turnRestart(kept ...int) turn {
	return turn{"Restart", func(t *testing.T, p *pair) {
		p.d.Restart(kept...)
		p.e.Restart(kept...)
	}}
}

func turnPut(name string, at int, b string) turn {
	return turn{"Put of " + name, func(t *testing.T, p *pair) {
		expect(t, "Put", p.d.Put(at, b), p.e.Put(at, b))
	}}
}

func expectTurns(t *testing.T, size int, turns []turn) {
	t.Helper()
	p := &pair{d: sector.New(size), e: sector.New(size)}
	for n, u := range turns {
		u.do(t, p)
		p.expect(t)
		if t.Failed() {
			for _, u := range turns[:n+1] {
				t.Log(u.name)
			}
			t.FailNow()
		}
	}
}

// P13.1, P13.2: all rows of up to three turns behind a store's mounting, with
// power and without, on a device whose bank is full soon.
func TestTurns(t *testing.T) {
	all := []turn{
		turnFormat(), turnMount(), turnSync(),
		turnDo("a link", aLink(0, "b", false, 0)), turnDo("a link of two frames", aLink(1, named(1, 60), true, 2)),
		turnDo("an unlink", anUnlink(0, "a", true)), turnDo("a move", aMove(0, "a", 0, "c", 9)), turnDo("what none does", deed.Deed{}),
		turnCut(0), turnCut(1), turnCut(5), turnCut(-1), turnRestart(), turnRestart(0, 2), turnRestart(0, 1, 2, 3, 4, 5),
		turnPut("a deed", 3, frames(written(aLink(1, "p", false, 0)))[0]), turnPut("no deed", 3, framed(1, "p")), turnPut("no image", 1, framed(1, "p")),
		turnPut("a head", 4, head(9)), turnPut("an image", 5, frames(rootAlone)[0]),
	}
	begin := []turn{turnFormat(), turnMount(), turnDo("a link", aLink(0, "a", true, 0))}
	for _, a := range all {
		for _, b := range all {
			for _, c := range all {
				expectTurns(t, 9, append(slices.Clone(begin), a, b, c))
			}
		}
	}
}

// P13.1, P13.2: long rows, on devices of any size, whose turns a small sum picks.
func TestLongTurns(t *testing.T) {
	draw := drawer()
	for range 600 {
		size := draw(50)
		turns := []turn{turnFormat(), turnMount()}
		for range 50 {
			turns = append(turns, drawnTurn(draw, size))
		}
		expectTurns(t, size, turns)
	}
}

func drawnTurn(draw func(below int) int, size int) turn {
	switch draw(32) {
	case 0:
		return turnFormat()
	case 1, 2:
		return turnMount()
	case 3, 4:
		return turnSync()
	case 5:
		return turnCut(draw(30) - 1)
	case 6, 7:
		return turnRestart(drawnKept(draw, 20)...)
	case 8:
		return turnPut("any", draw(size+1), drawnSector(draw))
	default:
		return turnDrawn(draw)
	}
}
