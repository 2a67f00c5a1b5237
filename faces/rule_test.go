package faces_test

import (
	"fmt"
	"slices"
	"testing"

	"toponym/api"
	"toponym/escape"
	"toponym/faces"
)

// faced says the chapter's rule over again.
func faced(enc int, e api.Entry) string {
	switch {
	case e.Short == 0:
		return escape.Present(enc, e.Name)
	case e.Short >= 1 && e.Short <= 1000000:
		return wantedShort(e.Name, e.Short)
	}
	return ""
}

func isLong(enc int, raw string) bool {
	return len(escape.Present(enc, raw)) > 255
}

func fitting(enc int, e api.Entry) bool {
	if isLong(enc, e.Name) {
		return e.Short != 0
	}
	return e.Short == 0
}

func firstFaced(enc int, l []api.Entry, name string) (api.Entry, bool) {
	for _, e := range l {
		if faced(enc, e) == name {
			return e, true
		}
	}
	return api.Entry{}, false
}

func leastPicked(enc int, l []api.Entry, raw string) int {
	if !isLong(enc, raw) {
		return 0
	}
	n := 1
	for slices.ContainsFunc(l, func(e api.Entry) bool { return hashed(e.Name) == hashed(raw) && e.Short == n }) {
		n++
	}
	return n
}

func allClean(enc int, l []api.Entry) bool {
	for i, e := range l {
		if !fitting(enc, e) {
			return false
		}
		for _, other := range l[:i] {
			if faced(enc, e) == faced(enc, other) {
				return false
			}
		}
	}
	return true
}

// expectRules asks all that can be asked of a list.
func expectRules(t *testing.T, enc int, l []api.Entry, names []string) {
	t.Helper()
	var shown []string
	for _, e := range l {
		shown = append(shown, faced(enc, e))
		expectFits(t, enc, e, fitting(enc, e))
	}
	expectNames(t, enc, l, shown...)
	expectClean(t, enc, l, allClean(enc, l))
	for _, name := range append(names, shown...) {
		e, ok := faces.Find(enc, l, name)
		if want, is := firstFaced(enc, l, name); e != want || ok != is {
			t.Errorf("Find(%d, %#v, %+q) = %#v, %v; want %#v, %v", enc, l, name, e, ok, want, is)
		}
		expectPick(t, enc, l, name, leastPicked(enc, l, name))
	}
}

// rulePool are names of which lists are drawn: some have one hash, some are long
// in some encodings alone, and some look like others' faces.
func rulePool() []string {
	to := aimed(hashed(stars(90)))
	pool := append(to.many(4), to.names("")[:2]...)
	pool = append(pool, stars(90), stars(85), stars(86), letters(255), letters(256), "", "a", ".", "%2e", "caf\xe9", "e\u0301", "\u00e9", "\xff", wantedShort(stars(90), 1), "%25"+wantedShort(stars(90), 1)[1:])
	for _, part := range []string{"\x80", "\xe9", "\xff", "\xb0", "\u00e9", "\u0301"} {
		for n := range 4 {
			long := ""
			for range 84 + n {
				long += part
			}
			pool = append(pool, long)
		}
	}
	return pool
}

// P14.1, P14.2: lists that are drawn are as the chapter says, in each encoding,
// with Shorts that fit, and that don't.
func TestRule(t *testing.T) {
	draw := drawer()
	pool := rulePool()
	for round := range 1500 {
		enc := round % encodings
		var l []api.Entry
		for range draw(9) {
			e := api.Entry{Name: pool[draw(len(pool))], Node: draw(200), Dir: draw(2) == 1, Cookie: int64(draw(1000))}
			switch draw(4) {
			case 0:
				e.Short = draw(6) - 1
			default:
				e.Short = leastPicked(enc, l, e.Name)
			}
			l = append(l, e)
		}
		expectRules(t, enc, l, []string{pool[draw(len(pool))], pool[draw(len(pool))], pool[draw(4)], wantedShort(pool[draw(7)], draw(3)+1)})
	}
}

// P14.1, P14.2: all lists of up to three entries of some names, each with some
// Shorts.
func TestRuleAll(t *testing.T) {
	long := aimed(hashed(stars(90))).many(1)[0]
	var some []api.Entry
	for i, name := range []string{"a", "caf\xe9", stars(90), long, letters(256)} {
		for _, n := range []int{0, 1, 2} {
			some = append(some, api.Entry{Name: name, Node: i*3 + n, Short: n})
		}
	}
	names := []string{"a", "caf\u00e9", "caf%e9", stars(90), long, wantedShort(stars(90), 1), wantedShort("a", 2)}
	for enc := range encodings {
		expectRules(t, enc, nil, names)
		for i, a := range some {
			expectRules(t, enc, []api.Entry{a}, names)
			for j, b := range some {
				expectRules(t, enc, []api.Entry{a, b}, names)
				if (i+j)%encodings == enc {
					for _, c := range some {
						expectRules(t, enc, []api.Entry{a, b, c}, names)
					}
				}
			}
		}
	}
}

// rawed says chapter 14's rule of a name over again.
func rawed(enc int, name string) (string, api.Errno) {
	if len(name) >= 256 {
		return "", api.ErrLong
	}
	return escape.Restore(enc, name)
}

// P14.2: names that are drawn of parts, as layer 4 restores them, but where they
// are too long.
func TestRuleRaw(t *testing.T) {
	draw := drawer()
	parts := []string{"a", "b", ".", " ", "%2a", "%2e", "%ff", "%e9", "\u00e9", "e\u0301", "\u30a2", "\u20ac", "*", "\xff", letters(80), letters(84), "%c3%a9", "\U0001f600"}
	came := map[string]int{}
	for round := range 40000 {
		enc := round % encodings
		name := ""
		for range draw(6) {
			name += parts[draw(len(parts))]
		}
		want, wrong := rawed(enc, name)
		expectRaw(t, enc, name, want, wrong)
		came[fmt.Sprint(wrong)]++
	}
	if len(came) != 3 {
		t.Errorf("there came %v", came)
	}
}
