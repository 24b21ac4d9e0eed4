package wrap_test

import (
	"bytes"
	libaes "crypto/aes"
	"crypto/cipher"
	libdes "crypto/des"
	"encoding/hex"
	"errors"
	"math"
	"math/big"
	"math/rand"
	"slices"
	"strconv"
	"strings"
	"testing"

	"lockbox/api"
	"lockbox/head"
	"lockbox/wrap"
)

const digits = "0123456789ABCDEF"

// lengths is those that keys of each kind have, of the Versions' wrapping keys
// and of the keys that are wrapped.
var lengths = map[byte][]int{'B': {16, 24}, 'D': {16, 24, 32}, 'T': {16, 24}, 'A': {16, 24, 32}}

// others is Versions that there aren't.
var others = []byte{0, 1, 2, 3, 'A', 'C', 'E', 'b', 'd', 'T', 'B' + 1, 'D' + 1, ' ', '0', 0x80 + 'B', 0xff}

func filled(size int, with byte) []byte { return bytes.Repeat([]byte{with}, size) }

func seeded(size int, seed int64) []byte {
	all := make([]byte, size)
	rand.New(rand.NewSource(seed)).Read(all)
	return all
}

func unhex(t *testing.T, text string) []byte {
	t.Helper()
	b, err := hex.DecodeString(text)
	if err != nil {
		t.Fatal(err)
	}
	return b
}

func one(c byte) string { return string([]byte{c}) }

// changed is s with the byte at a place changed to c.
func changed(s string, place int, c byte) string { return s[:place] + one(c) + s[place+1:] }

// a head of a Version and of a kind of key.
func headOf(version, alg byte) api.Head {
	return api.Head{Version: version, Usage: "P0", Alg: alg, Mode: 'E', Serial: "00", Export: 'E'}
}

func sizeOf(version byte) int { return map[byte]int{'B': 8, 'D': 16}[version] }

// The chapter's words once more, with the library's ciphers.

// cipherOf is the library's cipher of a Version.
func cipherOf(version byte, key []byte) cipher.Block {
	var c cipher.Block
	var err error
	if version == 'D' {
		c, err = libaes.NewCipher(key)
	} else {
		c, err = libdes.NewTripleDESCipher(append(bytes.Clone(key), key[:8]...)[:24])
	}
	if err != nil {
		panic(err)
	}
	return c
}

// twice is a block doubled, reckoned as a number.
func twice(b []byte) []byte {
	n := new(big.Int).Lsh(new(big.Int).SetBytes(b), 1)
	if n.Bit(8*len(b)) == 1 {
		n.SetBit(n, 8*len(b), 0)
		n.Xor(n, big.NewInt(map[int]int64{8: 0x1b, 16: 0x87}[len(b)]))
	}
	return n.FillBytes(make([]byte, len(b)))
}

// codeOf is the CMAC of a text.
func codeOf(c cipher.Block, text []byte) []byte {
	size := c.BlockSize()
	l := make([]byte, size)
	c.Encrypt(l, l)
	by, all := twice(l), bytes.Clone(text)
	if len(all) == 0 || len(all)%size != 0 {
		by, all = twice(by), append(all, 0x80)
		for len(all)%size != 0 {
			all = append(all, 0)
		}
	}
	code := make([]byte, size)
	for i, x := range all {
		if i >= len(all)-size {
			x ^= by[i%size]
		}
		code[i%size] ^= x
		if i%size == size-1 {
			c.Encrypt(code, code)
		}
	}
	return code
}

// madeKey is what a wrapping key makes for an end.
func madeKey(version byte, with []byte, end byte) []byte {
	kind := map[byte]map[int]byte{'B': {16: 0, 24: 1}, 'D': {16: 2, 24: 3, 32: 4}}[version][len(with)]
	bits := map[int][]byte{16: {0, 0x80}, 24: {0, 0xc0}, 32: {1, 0}}[len(with)]
	var all []byte
	for counter := byte(1); counter <= 4; counter++ {
		all = append(all, codeOf(cipherOf(version, with), append([]byte{counter, 0, end, 0, 0, kind}, bits...))...)
	}
	return all[:len(with)]
}

// sealed is a key block of whatever is wrapped, with the code that fits.
func sealed(version byte, with []byte, printed string, text []byte) string {
	return sealedFrom(version, with, printed, text, rightCode(version, with, printed, text))
}

// rightCode is the code of a printed head and what is wrapped.
func rightCode(version byte, with []byte, printed string, text []byte) []byte {
	return codeOf(cipherOf(version, madeKey(version, with, 1)), append([]byte(printed), text...))
}

// sealedFrom is a key block with whatever code: what is wrapped deciphers right.
func sealedFrom(version byte, with []byte, printed string, text, code []byte) string {
	hidden := bytes.Clone(text)
	cipher.NewCBCEncrypter(cipherOf(version, madeKey(version, with, 0)), code).CryptBlocks(hidden, hidden)
	return printed + strings.ToUpper(hex.EncodeToString(hidden)+hex.EncodeToString(code))
}

// printedOf is a right head printed with a length.
func printedOf(h api.Head, length int) string {
	return one(h.Version) + strconv.Itoa(10000 + length)[1:] + h.Usage + one(h.Alg) + one(h.Mode) + h.Serial + one(h.Export) + "0000"
}

// closed is a key block of whatever is wrapped under a right head, with the length
// and the code that fit.
func closed(with []byte, h api.Head, text []byte) string {
	return sealed(h.Version, with, printedOf(h, 16+2*(len(text)+sizeOf(h.Version))), text)
}

// laid is what is wrapped, with the length told in bits.
func laid(bits int, key, fill []byte) []byte {
	return slices.Concat([]byte{byte(bits >> 8), byte(bits)}, key, fill)
}

// needed counts the fill bytes that a key of n bytes needs.
func needed(version byte, n int) int {
	count := 0
	for (2+n+count)%sizeOf(version) != 0 {
		count++
	}
	return count
}

// opened is what is behind the head of a key block, deciphered, and whether its
// code fits.
func opened(with []byte, s string) ([]byte, bool) {
	version, size := s[0], sizeOf(s[0])
	all, err := hex.DecodeString(s[16:])
	if err != nil {
		panic(err)
	}
	text, code := all[:len(all)-size], all[len(all)-size:]
	cipher.NewCBCDecrypter(cipherOf(version, madeKey(version, with, 0)), code).CryptBlocks(text, text)
	return text, bytes.Equal(code, rightCode(version, with, s[:16], text))
}

// eachWay does something with heads of each Version and kind of key, and with
// wrapping keys and keys of each length.
func eachWay(do func(with []byte, h api.Head, key, fill []byte)) {
	seed := int64(0)
	for _, version := range []byte("BD") {
		for _, size := range lengths[version] {
			for _, alg := range []byte("TA") {
				for _, n := range lengths[alg] {
					seed++
					with := seeded(size, 1000*seed)
					do(with, headOf(version, alg), seeded(n, 1000*seed+1), seeded(needed(version, n), 1000*seed+2))
				}
			}
		}
	}
}

// wantAlone wants an error that is a number without a place.
func wantAlone(t *testing.T, name string, err error, number api.Errno) {
	t.Helper()
	if !errors.Is(err, number) || api.Code(err) != int(number) || api.At(err) != -1 {
		t.Fatalf("%s: the error is %d at %d, want %d alone", name, api.Code(err), api.At(err), int(number))
	}
}

// wantFaults wants a Fault of a number at the first place, one behind it at the
// second one, and so on, and none behind the last one.
func wantFaults(t *testing.T, name string, err error, number api.Errno, places ...int) {
	t.Helper()
	if !errors.Is(err, number) || api.Code(err) != int(number) {
		t.Fatalf("%s: the error's number is %d, want %d", name, api.Code(err), int(number))
	}
	for _, place := range places {
		var fault *api.Fault
		if !errors.As(err, &fault) || fault.At != place {
			t.Fatalf("%s: the fault is %v at %d, want %d", name, err, api.At(err), place)
		}
		err = fault.Err
	}
	if api.At(err) != -1 {
		t.Fatalf("%s: there is a fault more, at %d", name, api.At(err))
	}
}

// wantSame wants the error of another layer, handed on.
func wantSame(t *testing.T, name string, err, want error) {
	t.Helper()
	if err == nil || api.Code(err) != api.Code(want) || api.At(err) != api.At(want) {
		t.Fatalf("%s: the error is %d at %d, want %d at %d", name, api.Code(err), api.At(err), api.Code(want), api.At(want))
	}
}

// wantKeys wants of Keys what the chapter's words say.
func wantKeys(t *testing.T, version byte, with []byte) {
	t.Helper()
	first, second, err := wrap.Keys(version, with)
	name := strconv.Quote(one(version)) + ", " + strconv.Itoa(len(with)) + " bytes"
	switch {
	case sizeOf(version) == 0:
		wantAlone(t, name, err, api.ErrArg)
	case !slices.Contains(lengths[version], len(with)):
		wantAlone(t, name, err, api.ErrSize)
	case err != nil || !bytes.Equal(first, madeKey(version, with, 0)) || !bytes.Equal(second, madeKey(version, with, 1)):
		t.Fatalf("%s: the keys are %x and %x, %v, want %x and %x", name, first, second, err, madeKey(version, with, 0), madeKey(version, with, 1))
	}
	if err != nil && (len(first) != 0 || len(second) != 0) {
		t.Fatalf("%s: %x and %x stand beside an error", name, first, second)
	}
}

// wantWrap wants of Wrap what the chapter's words say.
func wantWrap(t *testing.T, with []byte, h api.Head, key, fill []byte) {
	t.Helper()
	s, err := wrap.Wrap(with, h, key, fill)
	name := strconv.Quote(one(h.Version)+h.Usage+one(h.Alg)) + ", " + strconv.Itoa(len(with)) + " wrap " + strconv.Itoa(len(key)) + " and " + strconv.Itoa(len(fill))
	if wrong := head.Right(h); wrong != nil {
		wantSame(t, name, err, wrong)
	} else if !slices.Contains(lengths[h.Version], len(with)) || !slices.Contains(lengths[h.Alg], len(key)) || len(fill) != needed(h.Version, len(key)) {
		wantAlone(t, name, err, api.ErrSize)
	} else if want := closed(with, h, laid(8*len(key), key, fill)); err != nil || s != want {
		t.Fatalf("%s: the key block is %q, %v, want %q", name, s, err, want)
	}
	if err != nil && s != "" {
		t.Fatalf("%s: %q stands beside an error", name, s)
	}
}

// wrongDigit is the place of the first byte behind the head that is no digit; -1:
// there is none.
func wrongDigit(s string) int {
	for i := 16; i < len(s); i++ {
		if strings.IndexByte(digits, s[i]) < 0 {
			return i
		}
	}
	return -1
}

// wantUnwrap wants of Unwrap what the chapter's words say, and tells if the text
// was unwrapped.
func wantUnwrap(t *testing.T, with []byte, s string) bool {
	t.Helper()
	h, key, err := wrap.Unwrap(with, s)
	if err != nil && (h != api.Head{} || len(key) != 0) {
		t.Fatalf("%q: %+q and %x stand beside an error", s, h, key)
	}
	want, length, wrong := head.Parse(s)
	if wrong != nil {
		wantSame(t, s, err, wrong)
		return false
	}
	behind := len(s) - 16
	size := sizeOf(want.Version)
	place := wrongDigit(s)
	switch {
	case !slices.Contains(lengths[want.Version], len(with)), length != len(s), behind%(2*size) != 0, behind < 4*size:
		wantAlone(t, s, err, api.ErrSize)
		return false
	case place >= 0:
		wantFaults(t, s, err, api.ErrDigit, place, place-16)
		return false
	}
	text, fits := opened(with, s)
	bits := int(text[0])<<8 + int(text[1])
	n := bits / 8
	switch {
	case !fits:
		wantAlone(t, s, err, api.ErrSum)
		return false
	case !slices.ContainsFunc(lengths[want.Alg], func(n int) bool { return bits == 8*n }), len(text) != 2+n+needed(want.Version, n):
		wantAlone(t, s, err, api.ErrForm)
		return false
	}
	if err != nil || h != want || !bytes.Equal(key, text[2:2+n]) {
		t.Fatalf("%q is unwrapped %+q, %x, %v, want %+q, %x", s, h, key, err, want, text[2:2+n])
	}
	return true
}

// mustWrap is a key block, which there has to be.
func mustWrap(t *testing.T, with []byte, h api.Head, key, fill []byte) string {
	t.Helper()
	s, err := wrap.Wrap(with, h, key, fill)
	if err != nil {
		t.Fatalf("%+q: %v", h, err)
	}
	return s
}

// P11.2, P11.3: two key blocks from examples of ASC X9 TR 31, the form that these
// are of. They are written from memory, with the fill that deciphering showed; that
// their codes fit speaks for them.
func TestKnownBlocks(t *testing.T) {
	for _, x := range []struct{ with, fill, s string }{
		{"88e1ab2a2e3dd38c1fa039a536500cc8a87ab9d62dc92c01058fa79f44657de6", "1c2965473ce206bb855b01533782", "D0112P0AE00E0000B82679114F470F540165EDFBF7E250FCEA43F810D215F8D207E2E417C07156A27E8E31DA05F7425509593D03A457DC34"},
		{"dd7515f2bfc17f85ce48f3ca25cb21f6", "1c2965473ce2", "B0080P0TE00E000094B420079CC80BA3461F86FE26EFC4A3B8E4FA4C5F5341176EED7B727B8A248E"},
	} {
		with, key := unhex(t, x.with), unhex(t, "3f419e1cb7079442aa37474c2efbf8b8")
		want := headOf(x.s[0], x.s[7])
		h, got, err := wrap.Unwrap(with, x.s)
		if err != nil || h != want || !bytes.Equal(got, key) {
			t.Fatalf("%q is unwrapped %+q, %x, %v", x.s, h, got, err)
		}
		if s, err := wrap.Wrap(with, want, key, unhex(t, x.fill)); err != nil || s != x.s {
			t.Fatalf("it is wrapped %q, %v, want %q", s, err, x.s)
		}
	}
}

// P11.1, P11.2: the chapter's example, and the numbers of others written out.
func TestExample(t *testing.T) {
	h := headOf('B', 'T')
	s, err := wrap.Wrap(filled(16, 1), h, filled(16, 2), filled(6, 3))
	if err != nil || wrap.Fill(h, 16) != 6 || len(s) != 16+48+16 || s[:16] != "B0080P0TE00E0000" {
		t.Fatalf("%d, %q, %v", wrap.Fill(h, 16), s, err)
	}
	for _, x := range []struct {
		version byte
		n, want int
	}{{'B', 0, 6}, {'B', 5, 1}, {'B', 6, 0}, {'B', 7, 7}, {'B', 8, 6}, {'B', 24, 6}, {'B', 32, 6}, {'D', 0, 14}, {'D', 13, 1}, {'D', 14, 0}, {'D', 15, 15}, {'D', 16, 14}, {'D', 24, 6}, {'D', 30, 0}, {'D', 32, 14}} {
		if got := wrap.Fill(headOf(x.version, 'A'), x.n); got != x.want {
			t.Fatalf("%c, %d bytes: %d fill bytes, want %d", x.version, x.n, got, x.want)
		}
	}
	for _, x := range []struct {
		version, alg byte
		n, want      int
	}{{'B', 'T', 24, 96}, {'B', 'A', 32, 112}, {'D', 'T', 16, 112}, {'D', 'T', 24, 112}, {'D', 'A', 24, 112}, {'D', 'A', 32, 144}} {
		s := mustWrap(t, filled(16, 1), headOf(x.version, x.alg), filled(x.n, 2), filled(needed(x.version, x.n), 3))
		if len(s) != x.want || s[1:5] != strconv.Itoa(10000 + x.want)[1:] {
			t.Fatalf("%c, %d bytes: %q, want %d characters", x.version, x.n, s, x.want)
		}
	}
}

// P11.1: the two keys of wrapping keys of each length, from none to 40 bytes, of
// both Versions and of others: another Version is told first.
func TestKeysOfEachLength(t *testing.T) {
	for size := range 41 {
		for _, version := range append([]byte("BD"), others...) {
			wantKeys(t, version, seeded(size, int64(size)))
			wantKeys(t, version, filled(size, 0))
		}
	}
	for version := range 256 {
		wantKeys(t, byte(version), filled(16, 5))
		wantKeys(t, byte(version), filled(15, 5))
		wantKeys(t, byte(version), filled(1<<16+16, 5))
	}
	wantKeys(t, 'B', nil)
	wantKeys(t, 'D', nil)
	wantKeys(t, 'C', nil)
}

// P11.1: some wrapping keys more; the two keys are as long, and unlike.
func TestTheTwoKeys(t *testing.T) {
	for _, version := range []byte("BD") {
		for _, size := range lengths[version] {
			for seed := range int64(20) {
				with := seeded(size, 50+seed)
				wantKeys(t, version, with)
				first, second, err := wrap.Keys(version, with)
				if err != nil || len(first) != size || len(second) != size || bytes.Equal(first, second) {
					t.Fatalf("%c, %x: %x and %x, %v", version, with, first, second, err)
				}
			}
		}
	}
}

// P11.1: fill of both Versions, of keys of each length to some hundred bytes;
// what else the head says doesn't matter.
func TestFill(t *testing.T) {
	for n := range 700 {
		for _, h := range []api.Head{{Version: 'B'}, {Version: 'D'}, headOf('B', 'T'), headOf('B', 'A'), headOf('D', 'T'), headOf('D', 'A'), {Version: 'D', Usage: "no", Alg: 'x', Mode: 1, Serial: "-", Export: 0xff}} {
			if got, want := wrap.Fill(h, n), needed(h.Version, n); got != want {
				t.Fatalf("%+q, %d bytes: %d fill bytes, want %d", h, n, got, want)
			}
		}
	}
}

// P11.1: no fill of other Versions, or of fewer bytes than none.
func TestNoFill(t *testing.T) {
	for version := range 256 {
		h := headOf(byte(version), 'T')
		for _, n := range []int{math.MinInt, math.MinInt + 1, math.MinInt32, -1 << 16, -300, -18, -17, -16, -10, -9, -8, -7, -3, -2, -1} {
			if got := wrap.Fill(h, n); got != 0 {
				t.Fatalf("%c, %d bytes: %d fill bytes, want none", version, n, got)
			}
		}
		if version == 'B' || version == 'D' {
			continue
		}
		for _, n := range []int{0, 1, 7, 8, 15, 16, 24, 32, 1 << 20, math.MaxInt} {
			if got := wrap.Fill(h, n); got != 0 {
				t.Fatalf("the Version %d, %d bytes: %d fill bytes, want none", version, n, got)
			}
		}
	}
	for n := 1; n < 300; n++ {
		if b, d := wrap.Fill(headOf('B', 'T'), -n), wrap.Fill(headOf('D', 'T'), -n); b != 0 || d != 0 {
			t.Fatalf("%d bytes: %d and %d fill bytes, want none", -n, b, d)
		}
	}
}

// P11.1: fill of keys that are very long, to the longest int.
func TestFillOfVeryLong(t *testing.T) {
	for _, version := range []byte("BD") {
		size := uint64(sizeOf(version))
		for _, base := range []int{math.MaxInt, math.MaxInt - 64, math.MaxInt32, math.MaxUint32, 1 << 31, 1 << 62, 1<<16 + 7} {
			for less := range 40 {
				n := base - less
				got := wrap.Fill(headOf(version, 'A'), n)
				if got < 0 || uint64(got) >= size || (uint64(n)+2+uint64(got))%size != 0 {
					t.Fatalf("%c, %d bytes: %d fill bytes", version, n, got)
				}
			}
		}
	}
}

// P11.2, P11.3, P11.4: key blocks of each Version, wrapping key and key.
func TestEachWay(t *testing.T) {
	count := 0
	eachWay(func(with []byte, h api.Head, key, fill []byte) {
		count++
		for _, f := range [][]byte{fill, filled(len(fill), 0), filled(len(fill), 0xff)} {
			for _, k := range [][]byte{key, filled(len(key), 0), filled(len(key), 0xff)} {
				wantWrap(t, with, h, k, f)
				s := mustWrap(t, with, h, k, f)
				if !wantUnwrap(t, with, s) {
					t.Fatalf("%q isn't unwrapped", s)
				}
				got, back, err := wrap.Unwrap(with, s)
				if err != nil || got != h || !bytes.Equal(back, k) {
					t.Fatalf("%q is unwrapped %+q, %x, %v", s, got, back, err)
				}
			}
		}
	})
	if count != 25 {
		t.Fatalf("%d ways", count)
	}
}

// P11.2, P11.4: heads of each mode and way out, with some usages and serials.
func TestEachHead(t *testing.T) {
	pairs := []string{"P0", "D0", "00", "ZZ", "9A", "A9", "K1"}
	i := 0
	for _, version := range []byte("BD") {
		for _, mode := range []byte("BCDEGNSTVXY") {
			for _, export := range []byte("ENS") {
				i++
				h := api.Head{Version: version, Usage: pairs[i%7], Alg: "TA"[i%2], Mode: mode, Serial: pairs[i%5], Export: export}
				with, key := seeded(16, int64(i)), seeded(24, int64(-i))
				wantWrap(t, with, h, key, filled(6, byte(i)))
				if !wantUnwrap(t, with, mustWrap(t, with, h, key, filled(6, byte(i)))) {
					t.Fatalf("%+q isn't unwrapped", h)
				}
			}
		}
	}
}

// P11.2: lengths of keys and fill that aren't right, one at a time and both.
func TestLengthsOfKeyAndFill(t *testing.T) {
	for _, version := range []byte("BD") {
		with := seeded(16, 3)
		for _, alg := range []byte("TA") {
			for size := range 42 {
				key := seeded(size, 4)
				for _, fill := range []int{0, 1, 5, 6, 7, 13, 14, 15, 16, 22, 30, needed(version, size), needed(version, size) + 8, 1000} {
					wantWrap(t, with, headOf(version, alg), key, filled(fill, 9))
				}
			}
			for fill := range 50 {
				for _, size := range []int{8, 16, 20, 24, 32} {
					wantWrap(t, with, headOf(version, alg), seeded(size, 5), filled(fill, 9))
				}
			}
		}
	}
}

// P11.2: keys of 32 bytes are AES's alone, and of 8 nobody's, with the fill that
// Fill says.
func TestKeysOfAnotherKind(t *testing.T) {
	for _, version := range []byte("BD") {
		for _, size := range []int{0, 1, 8, 14, 15, 17, 20, 23, 25, 30, 32, 33, 40, 48, 64, 8192 + 16} {
			h, key := headOf(version, 'T'), seeded(size, 6)
			_, err := wrap.Wrap(filled(16, 1), h, key, filled(wrap.Fill(h, size), 2))
			wantAlone(t, strconv.Itoa(size), err, api.ErrSize)
			h.Alg = 'A'
			_, err = wrap.Wrap(filled(16, 1), h, key, filled(wrap.Fill(h, size), 2))
			if size == 32 && err != nil {
				t.Fatal(err)
			} else if size != 32 {
				wantAlone(t, strconv.Itoa(size), err, api.ErrSize)
			}
		}
	}
}

// P11.2: which error comes first, of a head that isn't right, a wrapping key, a
// key and fill.
func TestWrapsFirstError(t *testing.T) {
	right := headOf('B', 'T')
	wrong := []api.Head{right, {}, right, right, right, right, right, right}
	for i, place := range []int{-1, 0, 0, 5, 7, 8, 9, 11} {
		h := &wrong[i]
		switch i {
		case 2:
			h.Version = 'C'
		case 3:
			h.Usage = "p0"
		case 4:
			h.Alg = 'D'
		case 5:
			h.Mode = 'e'
		case 6:
			h.Serial = "000"
		case 7:
			h.Export = 'X'
		}
		for _, with := range []int{0, 8, 15, 16, 24, 32} {
			for _, key := range []int{0, 8, 16, 32} {
				for _, fill := range []int{0, 6, 14} {
					wantWrap(t, filled(with, 1), *h, filled(key, 2), filled(fill, 3))
					_, err := wrap.Wrap(filled(with, 1), *h, filled(key, 2), filled(fill, 3))
					if place >= 0 {
						wantFaults(t, strconv.Itoa(i), err, api.ErrForm, place)
					}
				}
			}
		}
	}
}

// P11.2, P11.3: wrapping keys of each length, of both Versions.
func TestWrappingKeysOfEachLength(t *testing.T) {
	for _, version := range []byte("BD") {
		h := headOf(version, 'T')
		key, fill := filled(16, 2), filled(needed(version, 16), 3)
		s := mustWrap(t, filled(16, 1), h, key, fill)
		for size := range 42 {
			wantWrap(t, filled(size, 1), h, key, fill)
			if wantUnwrap(t, filled(size, 1), s) != (size == 16) {
				t.Fatalf("%c, a wrapping key of %d bytes", version, size)
			}
		}
	}
}

// P11.3: the beginnings of key blocks, the empty one among them, with the printed
// length as it was and with their own; and more behind a key block.
func TestTextsOfEachLength(t *testing.T) {
	for _, version := range []byte("BD") {
		with := seeded(16, 8)
		s := mustWrap(t, with, headOf(version, 'A'), seeded(32, 9), seeded(needed(version, 32), 10))
		for n := range len(s) {
			wantUnwrap(t, with, s[:n])
			if n < 16 {
				continue
			}
			if wantUnwrap(t, with, s[:1]+strconv.Itoa(10000 + n)[1:]+s[5:n]) {
				t.Fatalf("%d of %d characters are unwrapped", n, len(s))
			}
		}
		for n := range 70 {
			more := s + strings.Repeat("0", n)
			if wantUnwrap(t, with, more) != (n == 0) {
				t.Fatalf("%d characters more are unwrapped", n)
			}
			if wantUnwrap(t, with, more[:1]+strconv.Itoa(10000 + len(more))[1:]+more[5:]) != (n == 0) {
				t.Fatalf("%d characters more are unwrapped with their length", n)
			}
		}
	}
	_, _, err := wrap.Unwrap(filled(16, 1), "")
	wantAlone(t, "nothing", err, api.ErrSize)
	_, _, err = wrap.Unwrap(nil, "")
	wantAlone(t, "nothing with nothing", err, api.ErrSize)
}

// P11.3: printed lengths that aren't the text's, under codes that fit.
func TestPrintedLengths(t *testing.T) {
	for _, version := range []byte("BD") {
		with, h := seeded(16, 11), headOf(version, 'T')
		text := laid(128, seeded(16, 12), seeded(needed(version, 16), 13))
		length := 16 + 2*(len(text)+sizeOf(version))
		for _, n := range []int{16, 17, 48, 64, 78, 79, 80, 81, 82, 96, 110, 111, 112, 113, 114, 128, 144, 160, 800, 999, 1000, 1080, 1112, 8000, 9999} {
			s := sealed(version, with, printedOf(h, n), text)
			if wantUnwrap(t, with, s) != (n == length) {
				t.Fatalf("%q, %d characters", s, len(s))
			}
		}
		for n := range 160 {
			wantUnwrap(t, with, sealed(version, with, printedOf(h, n), text))
		}
	}
}

// P11.3: so and so many digits behind the head, with the length that fits: an odd
// number, fewer than two blocks, no whole blocks.
func TestDigitsBehindTheHead(t *testing.T) {
	for _, version := range []byte("BD") {
		with := filled(16, 1)
		for n := range 200 {
			s := printedOf(headOf(version, 'T'), 16+n) + strings.Repeat("7", n)
			wantUnwrap(t, with, s)
			_, _, err := wrap.Unwrap(with, s)
			whole := 2 * sizeOf(version)
			if n%whole == 0 && n >= 2*whole {
				wantAlone(t, s, err, api.ErrSum)
			} else {
				wantAlone(t, s, err, api.ErrSize)
			}
			// What is no digit is told behind what is no whole blocks.
			if n > 0 {
				wantUnwrap(t, with, s[:len(s)-1]+"x")
				wantUnwrap(t, with, changed(s, 16, 'a'))
			}
		}
	}
	// As long as can be printed, and longer.
	for _, n := range []int{9968, 9976, 9983, 9984, 10000, 65536} {
		for _, printed := range []string{"B9984P0TE00E0000", "D9984P0TE00E0000", "B9992P0TE00E0000", "B9999P0TE00E0000", "B0000P0TE00E0000"} {
			wantUnwrap(t, filled(16, 1), printed+strings.Repeat("7", n))
		}
	}
}

// P11.3: the longest key blocks whose code fits: their fill isn't as long as it
// has to be.
func TestLongFill(t *testing.T) {
	for _, version := range []byte("BD") {
		with, h := filled(16, 1), headOf(version, 'A')
		for _, blocks := range []int{7, 8, 20, 100, 300} {
			s := closed(with, h, laid(256, seeded(32, 14), make([]byte, blocks*sizeOf(version)-34)))
			_, _, err := wrap.Unwrap(with, s)
			wantAlone(t, s[:16], err, api.ErrForm)
			wantUnwrap(t, with, s)
		}
	}
}

// P11.3: each place of a key block with a byte that is no digit, letters of the
// other case among them: the error, and its place in the text.
func TestBytesThatAreNoDigits(t *testing.T) {
	for _, version := range []byte("BD") {
		with := seeded(16, 15)
		s := mustWrap(t, with, headOf(version, 'T'), seeded(16, 16), seeded(needed(version, 16), 17))
		for place := 16; place < len(s); place++ {
			for _, c := range []byte{0, ' ', '-', '/', ':', '@', 'G', 'Z', '`', 'a', 'f', 'g', 'x', 0x7f, 0x80 + '0', 0xff} {
				_, _, err := wrap.Unwrap(with, changed(s, place, c))
				wantFaults(t, strconv.Itoa(place), err, api.ErrDigit, place, place-16)
			}
			// The first one of several is told, and the code isn't asked.
			spoilt := changed(changed(s, len(s)-1, 'h'), place, 'a')
			_, _, err := wrap.Unwrap(with, changed(spoilt, len(s)-2, '-'))
			wantFaults(t, spoilt, err, api.ErrDigit, min(place, len(s)-2), min(place, len(s)-2)-16)
			wantUnwrap(t, with, spoilt)
		}
		lower := s[:16] + strings.ToLower(s[16:])
		if wantUnwrap(t, with, lower) {
			t.Fatalf("%q is unwrapped", lower)
		}
		for place := 16; place < len(s); place++ {
			if small := strings.ToLower(one(s[place])); small != one(s[place]) {
				_, _, err := wrap.Unwrap(with, changed(s, place, small[0]))
				wantFaults(t, small, err, api.ErrDigit, place, place-16)
			}
		}
	}
}

// P11.3: each of the 256 bytes in each place, the head's among them.
func TestEachByteOfAKeyBlock(t *testing.T) {
	for _, version := range []byte("BD") {
		t.Run(one(version), func(t *testing.T) {
			t.Parallel()
			with := seeded(16, 18)
			s := mustWrap(t, with, headOf(version, 'T'), seeded(16, 19), seeded(needed(version, 16), 20))
			for place := range s {
				if place >= 24 && place < len(s)-4 && place%8 != 0 {
					continue
				}
				for c := range 256 {
					if wantUnwrap(t, with, changed(s, place, byte(c))) != (s[place] == byte(c)) {
						t.Fatalf("with %d at %d it is unwrapped", c, place)
					}
				}
			}
		})
	}
}

// P11.3, P11.4: each digit of key blocks of each way changed: the code doesn't
// fit any more.
func TestEachDigitChanged(t *testing.T) {
	r := rand.New(rand.NewSource(21))
	eachWay(func(with []byte, h api.Head, key, fill []byte) {
		s := mustWrap(t, with, h, key, fill)
		for place := 16; place < len(s); place++ {
			c := digits[r.Intn(16)]
			if c == s[place] {
				c = digits[(strings.IndexByte(digits, c)+1+r.Intn(15))%16]
			}
			_, _, err := wrap.Unwrap(with, changed(s, place, c))
			wantAlone(t, changed(s, place, c), err, api.ErrSum)
		}
	})
}

// P11.3, P11.4: each bit of the code turned, with a text that deciphers right all
// the same: all of the code is held against the right one.
func TestEachBitOfTheCode(t *testing.T) {
	for _, version := range []byte("BD") {
		with, h, size := seeded(16, 31), headOf(version, 'T'), sizeOf(version)
		text := laid(192, seeded(24, 32), seeded(needed(version, 24), 33))
		printed := printedOf(h, 16+2*(len(text)+size))
		for bit := range 8 * size {
			code := rightCode(version, with, printed, text)
			code[bit/8] ^= 1 << (bit % 8)
			s := sealedFrom(version, with, printed, text, code)
			_, _, err := wrap.Unwrap(with, s)
			wantAlone(t, s, err, api.ErrSum)
		}
	}
}

// P11.3, P11.4: each field of the head changed to another one that is right: it
// stands under the code.
func TestHeadChanged(t *testing.T) {
	eachWay(func(with []byte, h api.Head, key, fill []byte) {
		s := mustWrap(t, with, h, key, fill)
		for place, c := range map[int]byte{5: 'K', 6: '1', 8: 'N', 9: 'A', 10: '1', 11: 'N'} {
			_, _, err := wrap.Unwrap(with, changed(s, place, c))
			wantAlone(t, s, err, api.ErrSum)
		}
		_, _, err := wrap.Unwrap(with, changed(s, 7, 'A'+'T'-h.Alg))
		wantAlone(t, s, err, api.ErrSum)
		wantUnwrap(t, with, changed(s, 0, 'B'+'D'-h.Version))
	})
}

// P11.3: a wrapped length that isn't right, under a code that fits, in texts of
// some blocks.
func TestWrappedLengths(t *testing.T) {
	var told []int
	for bits := range 330 {
		told = append(told, bits)
	}
	for high := 1; high < 256; high++ {
		told = append(told, high<<8|0x80)
	}
	told = append(told, 0x1000, 0x00c0+0x8000, 0x8000, 0xff00, 0xffff, 16<<8, 24<<8, 32<<8, 128*8, 192*8, 256*8, 65528)
	for _, version := range []byte("BD") {
		for _, alg := range []byte("TA") {
			t.Run(one(version)+one(alg), func(t *testing.T) {
				t.Parallel()
				with, h := seeded(16, 22), headOf(version, alg)
				for _, n := range lengths['A'] {
					text := seeded(2+n+needed(version, n), 23)
					for _, bits := range told {
						s := closed(with, h, laid(bits, text[2:], nil))
						_, _, err := wrap.Unwrap(with, s)
						if bits != 8*n && !(version == 'D' && n != 32 && (bits == 128 || bits == 192)) {
							wantAlone(t, s, err, api.ErrForm)
						}
						wantUnwrap(t, with, s)
					}
				}
			})
		}
	}
}

// P11.3: fill that isn't as long as it has to be, under a code that fits: of each
// kind and length of key, told in texts of one block to nine.
func TestWrappedFill(t *testing.T) {
	for _, version := range []byte("BD") {
		for _, alg := range []byte("TA") {
			with, h := seeded(24, 24), headOf(version, alg)
			for _, n := range []int{0, 8, 14, 16, 24, 30, 32, 40} {
				for blocks := 1; blocks < 10; blocks++ {
					text := seeded(blocks*sizeOf(version), 25)
					text[0], text[1] = byte(8*n>>8), byte(8*n)
					s := closed(with, h, text)
					right := slices.Contains(lengths[alg], n) && len(text) == 2+n+needed(version, n)
					if wantUnwrap(t, with, s) != right {
						t.Fatalf("%q of %d bytes in %d blocks", h, n, blocks)
					}
					if _, _, err := wrap.Unwrap(with, s); !right {
						wantAlone(t, s, err, api.ErrForm)
					}
				}
			}
		}
	}
}

// P11.3: which error comes first: the text is spoilt in more ways than one, each
// bit of which one.
func TestUnwrapsFirstError(t *testing.T) {
	for _, version := range []byte("BD") {
		right := seeded(16, 26)
		for which := range 64 {
			with, h := right, headOf(version, 'T')
			text := laid(128, seeded(16, 27), seeded(needed(version, 16), 28))
			if which&1 != 0 { // another length, or other fill
				text[1]++
			}
			s := closed(with, h, text)
			if which&2 != 0 { // another code
				s = changed(s, len(s)-1, digits[(strings.IndexByte(digits, s[len(s)-1])+1)%16])
			}
			if which&4 != 0 {
				s = changed(s, 20, 'a')
			}
			if which&8 != 0 {
				s = changed(s, 4, s[4]+1)
			}
			if which&16 != 0 {
				with = with[:8]
			}
			if which&32 != 0 {
				s = changed(s, 13, '1')
			}
			_, _, err := wrap.Unwrap(with, s)
			name := strconv.Itoa(which)
			switch {
			case which >= 32:
				wantFaults(t, name, err, api.ErrForm, 12)
			case which >= 8:
				wantAlone(t, name, err, api.ErrSize)
			case which >= 4:
				wantFaults(t, name, err, api.ErrDigit, 20, 4)
			case which >= 2:
				wantAlone(t, name, err, api.ErrSum)
			case which == 1:
				wantAlone(t, name, err, api.ErrForm)
			case err != nil:
				t.Fatal(err)
			}
			wantUnwrap(t, with, s)
		}
	}
}

// P11.3: a head that isn't right is told at its place, whatever the wrapping key
// and what is behind.
func TestUnwrapsHead(t *testing.T) {
	s := mustWrap(t, filled(16, 1), headOf('B', 'T'), filled(16, 2), filled(6, 3))
	for place, at := range []int{0, 1, 1, 1, 1, 5, 5, 7, 8, 9, 9, 11, 12, 12, 12, 12} {
		for _, with := range []int{0, 8, 16, 40} {
			for _, behind := range []string{s[16:], "", "x", "0", strings.ToLower(s[16:])} {
				_, _, err := wrap.Unwrap(filled(with, 1), changed(s[:16], place, '-')+behind)
				wantFaults(t, s, err, api.ErrForm, at)
			}
		}
	}
}

// P11.3, P11.4: with another wrapping key: of each one bit turned, and of another
// length. TDES doesn't look at the lowest bits of its keys' bytes.
func TestAnotherWrappingKey(t *testing.T) {
	eachWay(func(with []byte, h api.Head, key, fill []byte) {
		s := mustWrap(t, with, h, key, fill)
		for i := range with {
			for _, bit := range []int{0, 1 + i%7} {
				other := bytes.Clone(with)
				other[i] ^= 1 << bit
				_, _, err := wrap.Unwrap(other, s)
				if h.Version == 'B' && bit == 0 {
					if err != nil {
						t.Fatalf("%x for %x: %v", other, with, err)
					}
					continue
				}
				wantAlone(t, s, err, api.ErrSum)
			}
		}
		for _, size := range lengths[h.Version] {
			if size != len(with) {
				_, _, err := wrap.Unwrap(append(bytes.Clone(with), with...)[:size], s)
				wantAlone(t, s, err, api.ErrSum)
			}
		}
	})
}

// P11.4: with the same wrapping key other keys, and other fill, have other key
// blocks; so has the same key under another head.
func TestUnlikeBlocks(t *testing.T) {
	seen := map[string]bool{}
	with := seeded(32, 29)
	for i := range 300 {
		key, fill := filled(16, 0), filled(14, 0)
		if i < 128 {
			key[i/8] ^= 1 << (i % 8)
		} else if i < 240 {
			fill[(i-128)/8] ^= 1 << (i % 8)
		}
		h := headOf('D', 'A')
		if i >= 240 {
			h.Serial = strconv.Itoa(i)[1:]
		}
		s := mustWrap(t, with, h, key, fill)
		if seen[s[16:]] || seen[s[len(s)-32:]] {
			t.Fatalf("%q twice", s)
		}
		seen[s[16:]], seen[s[len(s)-32:]] = true, true
	}
}

// P11.5: what is handed in stays, with room behind it, which isn't touched too.
func TestArgumentsStay(t *testing.T) {
	eachWay(func(with []byte, h api.Head, key, fill []byte) {
		roomy := func(b []byte) []byte { return append(append(make([]byte, 0, 200), b...), filled(100, 0xee)...) }
		w, k, f := roomy(with), roomy(key), roomy(fill)
		s := mustWrap(t, w[:len(with)], h, k[:len(key)], f[:len(fill)])
		if _, _, err := wrap.Keys(h.Version, w[:len(with)]); err != nil {
			t.Fatal(err)
		}
		if _, _, err := wrap.Unwrap(w[:len(with)], s); err != nil {
			t.Fatal(err)
		}
		_, _, err := wrap.Unwrap(w[:len(with)], changed(s, 30, 'x'))
		wantFaults(t, s, err, api.ErrDigit, 30, 14)
		wrap.Wrap(w[:len(with)], h, k[:len(key)], f[:len(fill)+1])
		wrap.Wrap(w[:len(with)-1], h, k[:len(key)], f[:len(fill)])
		if !bytes.Equal(w, roomy(with)) || !bytes.Equal(k, roomy(key)) || !bytes.Equal(f, roomy(fill)) {
			t.Fatalf("an argument is changed: %x, %x, %x", w, k, f)
		}
	})
}

// P11.5: what was answered stays, when the arguments or other answers are
// changed, and nothing of it is kept.
func TestAnswersAreNewMemory(t *testing.T) {
	eachWay(func(with []byte, h api.Head, key, fill []byte) {
		first, second, err := wrap.Keys(h.Version, with)
		if err != nil {
			t.Fatal(err)
		}
		want, other := bytes.Clone(first), bytes.Clone(second)
		clear(first[:cap(first)])
		if !bytes.Equal(second, other) {
			t.Fatal("the two keys share memory")
		}
		clear(second[:cap(second)])
		first, second, _ = wrap.Keys(h.Version, with)
		if !bytes.Equal(first, want) || !bytes.Equal(second, other) {
			t.Fatal("an earlier answer is kept")
		}

		ours, theirs := bytes.Clone(with), bytes.Clone(key)
		s := mustWrap(t, ours, h, theirs, fill)
		kept := strings.Clone(s)
		_, back, err := wrap.Unwrap(ours, s)
		if err != nil {
			t.Fatal(err)
		}
		_, again, _ := wrap.Unwrap(ours, s)
		clear(again[:cap(again)])
		clear(ours)
		clear(theirs)
		if !bytes.Equal(back, key) || s != kept || !bytes.Equal(first, want) || !bytes.Equal(second, other) {
			t.Fatal("an answer is changed")
		}
		if _, once, err := wrap.Unwrap(with, s); err != nil || !bytes.Equal(once, key) {
			t.Fatalf("%x, %v", once, err)
		}
	})
}

// P1: whatever bytes come, each call ends, and none panics.
func TestWhateverBytes(t *testing.T) {
	r := rand.New(rand.NewSource(30))
	some := func(n int) []byte {
		b := make([]byte, r.Intn(n))
		r.Read(b)
		return b
	}
	for range 2000 {
		with, key, fill := some(40), some(40), some(20)
		wantKeys(t, byte(r.Intn(256)), with)
		wantUnwrap(t, with, string(some(100)))
		h := api.Head{Version: "BDC"[r.Intn(3)], Usage: "P0", Alg: "TAD"[r.Intn(3)], Mode: "EX-"[r.Intn(3)], Serial: "00", Export: "ENx"[r.Intn(3)]}
		wantWrap(t, with, h, key, fill)
		wantWrap(t, filled(16, 1), h, key[:min(len(key), 16)], fill[:min(len(fill), 6)])
		behind := strings.ToUpper(hex.EncodeToString(some(80)))
		wantUnwrap(t, filled(16, 1), printedOf(headOf("BD"[r.Intn(2)], 'T'), 16+len(behind))+behind)
	}
}
