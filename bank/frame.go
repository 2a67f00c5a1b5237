package bank

import (
	"strings"

	"toponym/api"
)

// A frame's bytes: how many are left, and room for some of them.
const (
	countBytes = 2
	room       = api.Sector - countBytes
)

// epochBytes stand twice in a head.
const epochBytes = 8

func noughts() string {
	return strings.Repeat("\x00", api.Sector)
}

// frames serves those who write and those who read, so that what is looked for
// is what is written.
func frames(record string) []string {
	l := make([]string, 0, Frames(len(record)))
	for rest := record; rest != ""; rest = rest[min(room, len(rest)):] {
		l = append(l, framed(rest))
	}
	return l
}

// framed has as much of what is left as there is room for.
func framed(rest string) string {
	var b [api.Sector]byte
	b[0] = byte(len(rest) >> 8)
	b[1] = byte(len(rest))
	copy(b[countBytes:], rest)
	return string(b[:])
}

func left(frame string) int {
	return int(frame[0])<<8 | int(frame[1])
}

// joined has the noughts of the last frame, too.
func joined(frames []string) string {
	var b strings.Builder
	for _, frame := range frames {
		b.WriteString(frame[countBytes:])
	}
	return b.String()
}

// head of 0 is that of none: epochs are from 1 on.
func head(epoch uint64) string {
	if epoch == 0 {
		return noughts()
	}
	var b [api.Sector]byte
	for i := range epochBytes {
		b[i] = byte(epoch >> (8 * (epochBytes - 1 - i)))
		b[epochBytes+i] = 255 - b[i]
	}
	return string(b[:])
}

// epochOf goes by what would be written of an epoch: any other head is of none.
func epochOf(bytes string) uint64 {
	var epoch uint64
	for i := range epochBytes {
		epoch = epoch<<8 | uint64(bytes[i])
	}
	if bytes != head(epoch) {
		return 0
	}
	return epoch
}
