package short_test

import (
	"fmt"
	"math"
	"regexp"
	"strconv"
	"strings"
	"testing"

	"toponym/short"
)

// hashes have each digit in each place, ahead of and behind zeros.
func hashes() []uint32 {
	l := []uint32{0, 1, 0xffffffff, 0x01234567, 0x89abcdef, 0xfedcba98, 0x76543210, 0xe40c292c, 0x7fffffff, 0x80000000, 0x0a0b0c0d, 0xa0b0c0d0}
	for place := range 8 {
		for digit := range uint32(16) {
			l = append(l, digit<<(4*place))
		}
	}
	return l
}

func numbers() []int {
	return []int{1, 2, 9, 10, 11, 19, 20, 99, 100, 101, 255, 256, 999, 1000, 65536, 99999, 100000, 999999, 1000000}
}

func noNumbers() []int {
	return []int{0, -1, -2, -10, -1000000, -1000001, 1000001, 1000002, 10000000, math.MinInt32, math.MaxInt32, 1 << 32, 1<<32 + 1, 1<<32 + 1000000, -1<<32 + 1, math.MinInt, math.MinInt + 1, math.MaxInt}
}

func expectRead(t *testing.T, name string, hash uint32, n int, ok bool) {
	t.Helper()
	h, m, is := short.Read(name)
	if h != hash || m != n || is != ok {
		t.Errorf("Read(%+q) = %x, %d, %v; want %x, %d, %v", name, h, m, is, hash, n, ok)
	}
}

func expectNoName(t *testing.T, name string) {
	t.Helper()
	expectRead(t, name, 0, 0, false)
}

// P5.1: a name has eight small digits of the hash, and n's without a zero ahead.
func TestName(t *testing.T) {
	for _, x := range []struct {
		hash uint32
		n    int
		name string
	}{
		{0xe40c292c, 1, "%~e40c292c-1"},
		{0, 1, "%~00000000-1"},
		{1, 9, "%~00000001-9"},
		{0xa, 10, "%~0000000a-10"},
		{0x10, 11, "%~00000010-11"},
		{0x01234567, 99, "%~01234567-99"},
		{0x89abcdef, 100, "%~89abcdef-100"},
		{0xffffffff, 1000000, "%~ffffffff-1000000"},
		{0x00ff00ff, 999999, "%~00ff00ff-999999"},
	} {
		if name := short.Name(x.hash, x.n); name != x.name {
			t.Errorf("Name(%x, %d) = %+q; want %+q", x.hash, x.n, name, x.name)
		}
		expectRead(t, x.name, x.hash, x.n, true)
	}
}

// P5.1: a name of each hash and number is read back; no two are the same.
func TestNameRead(t *testing.T) {
	came := map[string]string{}
	for _, hash := range hashes() {
		for _, n := range numbers() {
			name := short.Name(hash, n)
			want := fmt.Sprintf("%%~%08x-%d", hash, n)
			if name != want {
				t.Errorf("Name(%x, %d) = %+q; want %+q", hash, n, name, want)
			}
			who := fmt.Sprint(hash, n)
			if other, ok := came[name]; ok && other != who {
				t.Errorf("%+q is of %s and %s", name, who, other)
			}
			came[name] = who
			expectRead(t, want, hash, n, true)
		}
	}
}

// P5.1: each number has its name.
func TestNameAllNumbers(t *testing.T) {
	for n := 1; n <= 1000000; n++ {
		name := short.Name(0xc0ffee, n)
		if name != "%~00c0ffee-"+strconv.Itoa(n) {
			t.Fatalf("Name(c0ffee, %d) = %+q", n, name)
		}
		if hash, m, ok := short.Read(name); hash != 0xc0ffee || m != n || !ok {
			t.Fatalf("Read(%+q) = %x, %d, %v", name, hash, m, ok)
		}
	}
}

// P5.1: of n below 1, or above 1000000, there is no name, and none is read.
func TestNameNone(t *testing.T) {
	for _, hash := range hashes() {
		for _, n := range noNumbers() {
			if name := short.Name(hash, n); name != "" {
				t.Errorf("Name(%x, %d) = %+q", hash, n, name)
			}
			expectNoName(t, fmt.Sprintf("%%~%08x-%d", hash, n))
		}
	}
}

// P5.1: of what is no short name, nothing is read.
func TestReadNone(t *testing.T) {
	for _, name := range []string{
		"", "%", "%~", "-", "1", "%~-", "%~-1", "a", "%~e", "%~e40c292c", "%~e40c292c-",
		"~%e40c292c-1", "%%e40c292c-1", "~~e40c292c-1", "%e40c292c-1", "~e40c292c-1", "e40c292c-1", "%7ee40c292c-1", "%25~e40c292c-1", " %~e40c292c-1", "%~~e40c292c-1", "%%~e40c292c-1", "%-e40c292c-1", "%~ e40c292c-1",
		"%~e40c292-1", "%~40c292c-1", "%~e40c292cc-1", "%~0e40c292c-1", "%~e40c292c0-1", "%~1-1", "%~00000000e40c292c-1", "%~1e40c292c-1",
		"%~E40c292c-1", "%~e40C292c-1", "%~e40c292C-1", "%~E40C292C-1", "%~FFFFFFFF-1",
		"%~g40c292c-1", "%~e40c292g-1", "%~e40c29 c-1", "%~+40c292c-1", "%~-40c292c-1", "%~0x0c292c-1", "%~e40_292c-1", "%~\uff145\uff14-1", "%~e40c2\u0663-1",
		"%~e40c292c.1", "%~e40c292c_1", "%~e40c292c+1", "%~e40c292c 1", "%~e40c292c\u2010", "%~e40c292c1", "%~e40c292c11",
		"%~e40c292c--1", "%~e40c292c-+1", "%~e40c292c--0", "%~e40c292c- 1", "%~e40c292c-1 ", "%~e40c292c-a", "%~e40c292c-1a", "%~e40c292c-0x1", "%~e40c292c-1e3", "%~e40c292c-1_0", "%~e40c292c-\u0661", "%~e40c292c-\uff11",
		"%~e40c292c-0", "%~e40c292c-00", "%~e40c292c-01", "%~e40c292c-010", "%~e40c292c-0000001", "%~e40c292c-0000000", "%~e40c292c-0999999",
		"%~e40c292c-1000001", "%~e40c292c-1000010", "%~e40c292c-2000000", "%~e40c292c-9999999", "%~e40c292c-10000000", "%~e40c292c-01000000", "%~e40c292c-4294967297", "%~e40c292c-9223372036854775807", "%~e40c292c-18446744073709551617", "%~e40c292c-100000000000000000000000000",
		"%~e40c292c-1.", "%~e40c292c-1.0", "%~e40c292c-1-1", "%~e40c292c-1\x00", "%~e40c292c-1\n", "%~e40c292c-1%20", "%~e40c292c-1%~e40c292c-1", "%~e40c292c-1\u0301",
		"\xff", "%~\xff\xff\xff\xff\xff\xff\xff\xff-1", "%~e40c292c-\xff", "\x00%~e40c292c-1",
		strings.Repeat("%~", 6), "%~" + strings.Repeat("0", 70000), "%~e40c292c-" + strings.Repeat("1", 70000), "%~e40c292c-" + strings.Repeat("0", 70000) + "1", strings.Repeat("%~e40c292c-1", 5000),
	} {
		expectNoName(t, name)
	}
}

// expectRule says over again which names are short ones.
func expectRule(t *testing.T, rule *regexp.Regexp, name string) {
	t.Helper()
	parts := rule.FindStringSubmatch(name)
	if parts == nil {
		expectNoName(t, name)
		return
	}
	hash, err := strconv.ParseUint(parts[1], 16, 32)
	if err != nil {
		t.Fatal(err)
	}
	n, err := strconv.Atoi(parts[2])
	if err != nil {
		t.Fatal(err)
	}
	expectRead(t, name, uint32(hash), n, true)
}

// P5.1: a name that another byte is put into, in whatever place, or that one is
// taken of, is read just if it is a short one again.
func TestReadChanged(t *testing.T) {
	rule := regexp.MustCompile(`\A%~([0-9a-f]{8})-([1-9][0-9]{0,5}|1000000)\z`)
	for _, name := range []string{"%~e40c292c-1", "%~00000000-10", "%~09af09af-999999", "%~ffffffff-1000000"} {
		expectRule(t, rule, name)
		for at := range len(name) + 1 {
			ahead, behind := name[:at], name[at:]
			for b := range 256 {
				expectRule(t, rule, ahead+string([]byte{byte(b)})+behind)
				if behind != "" {
					expectRule(t, rule, ahead+string([]byte{byte(b)})+behind[1:])
				}
			}
			expectRule(t, rule, ahead)
			expectRule(t, rule, behind)
			if behind != "" {
				expectRule(t, rule, ahead+behind[1:])
			}
		}
	}
}
