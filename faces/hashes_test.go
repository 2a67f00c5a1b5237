package faces_test

import (
	"slices"
	"testing"
)

// The numbers of FNV-1a with 32 bits; back times prime is 1, modulo 2^32.
const (
	basis = 2166136261
	prime = 16777619
	back  = 899433627
)

// triples are three of these in a row, in whatever order.
func triples() []string {
	const of = "0123456789ABCDEFGHIJKLMNOPQRSTUVWXYZabcdefghijklmnopqrstuvwxyz"
	l := make([]string, 0, len(of)*len(of)*len(of))
	for a := range len(of) {
		for b := range len(of) {
			for c := range len(of) {
				l = append(l, of[a:a+1]+of[b:b+1]+of[c:c+1])
			}
		}
	}
	return l
}

// aims tells how to come to a hash by three characters more: from a hash ahead
// of them, to them.
type aims map[uint32]string

// aimed goes from the hash back.
func aimed(hash uint32) aims {
	to := aims{}
	for _, three := range triples() {
		ahead := hash
		for i := len(three) - 1; i >= 0; i-- {
			ahead = ahead*back ^ uint32(three[i])
		}
		to[ahead] = three
	}
	return to
}

// ends are six characters each, behind which a name that begins so has the hash.
func (to aims) ends(begin string) []string {
	from := hashed(begin)
	var l []string
	for _, three := range triples() {
		hash := from
		for i := range len(three) {
			hash = (hash ^ uint32(three[i])) * prime
		}
		if end, ok := to[hash]; ok {
			l = append(l, three+end)
		}
	}
	return l
}

// names are names of one hash that begin so.
func (to aims) names(begin string) []string {
	var l []string
	for _, end := range to.ends(begin) {
		l = append(l, begin+end)
	}
	return l
}

// many are long names of one hash, by stars in another number each.
func (to aims) many(least int) []string {
	var l []string
	for n := 86; len(l) < least; n++ {
		l = append(l, to.names(stars(n))...)
	}
	return l[:least]
}

// The means above have what they say: names of one hash, no two alike.
func TestMeans(t *testing.T) {
	to := aimed(hashed("a"))
	l := append(to.many(100), to.names("")...)
	l = append(l, to.names("\xff\xfe")...)
	for _, name := range l {
		if hashed(name) != hashed("a") {
			t.Errorf("% x has the hash %x", name, hashed(name))
		}
	}
	slices.Sort(l)
	if len(slices.Compact(l)) < 120 {
		t.Errorf("there are %d", len(l))
	}
	if hash := uint32(basis); hash != hashed("") {
		t.Errorf("%x", hash)
	}
}
