package aes_test

import (
	"bytes"
	published "crypto/aes"
	"encoding/hex"
	"errors"
	"math/rand"
	"slices"
	"testing"

	"lockbox/aes"
	"lockbox/api"
	"lockbox/gf"
)

var sizes = []int{16, 24, 32}

func unhex(t *testing.T, text string) []byte {
	t.Helper()
	b, err := hex.DecodeString(text)
	if err != nil {
		t.Fatal(err)
	}
	return b
}

// counted is the bytes 00, 01, 02 and so on.
func counted(size int) []byte {
	key := make([]byte, size)
	for i := range key {
		key[i] = byte(i)
	}
	return key
}

func filled(size int, with byte) []byte {
	return bytes.Repeat([]byte{with}, size)
}

// samples is keys of all three sizes: of zeros, of ff, of one bit, counted, and
// drawn from a seed.
func samples() [][]byte {
	draws := rand.New(rand.NewSource(2))
	var keys [][]byte
	for _, size := range sizes {
		keys = append(keys, filled(size, 0), filled(size, 0xff), counted(size))
		first, last := filled(size, 0), filled(size, 0)
		first[0], last[size-1] = 0x80, 1
		keys = append(keys, first, last)
		for range 20 {
			key := make([]byte, size)
			draws.Read(key)
			keys = append(keys, key)
		}
	}
	return keys
}

// blocks is blocks of zeros, of ff, of one byte each, and drawn from a seed.
func blocks() [][16]byte {
	draws := rand.New(rand.NewSource(3))
	all := [][16]byte{{}, [16]byte(filled(16, 0xff)), [16]byte(counted(16))}
	for i := range 16 {
		var b [16]byte
		b[i] = 0x80
		all = append(all, b)
	}
	for range 10 {
		var b [16]byte
		draws.Read(b[:])
		all = append(all, b)
	}
	return all
}

// wordsByWords makes the words one by one, as the chapter says it.
func wordsByWords(key []byte) []byte {
	nk := len(key) / 4
	rounds := nk + 6
	w := make([][4]byte, 4*(rounds+1))
	for i := range w {
		if i < nk {
			w[i] = [4]byte(key[4*i:])
			continue
		}
		ahead := w[i-1]
		if i%nk == 0 {
			ahead = [4]byte{gf.Box(ahead[1]), gf.Box(ahead[2]), gf.Box(ahead[3]), gf.Box(ahead[0])}
			power := byte(1)
			for range i/nk - 1 {
				power = gf.Mul(power, 2)
			}
			ahead[0] ^= power
		} else if nk == 8 && i%8 == 4 {
			ahead = [4]byte{gf.Box(ahead[0]), gf.Box(ahead[1]), gf.Box(ahead[2]), gf.Box(ahead[3])}
		}
		for k := range 4 {
			w[i][k] = w[i-nk][k] ^ ahead[k]
		}
	}
	var all []byte
	for _, word := range w {
		all = append(all, word[:]...)
	}
	return all
}

// P2.1, the chapter's example, and the published ones of longer keys.
func TestExamples(t *testing.T) {
	plain := [16]byte(unhex(t, "00112233445566778899aabbccddeeff"))
	for _, x := range []struct {
		size int
		want string
	}{
		{16, "69c4e0d86a7b0430d8cdb78070b4c55a"},
		{24, "dda97ca4864cdfe06eaf70a0ec0d7191"},
		{32, "8ea2b7ca516745bfeafc49904b496089"},
	} {
		got, err := aes.Encrypt(counted(x.size), plain)
		if err != nil || hex.EncodeToString(got[:]) != x.want {
			t.Errorf("a key of %d bytes: %x, %v, not %s", x.size, got, err, x.want)
		}
		back, err := aes.Decrypt(counted(x.size), got)
		if err != nil || back != plain {
			t.Errorf("a key of %d bytes: %x, %v, not %x", x.size, back, err, plain)
		}
	}
}

// P2.1, zeros and ff, as they are known of AES.
func TestZerosAndOnes(t *testing.T) {
	for _, x := range []struct {
		size int
		with byte
		want string
	}{
		{16, 0, "66e94bd4ef8a2c3b884cfa59ca342b2e"},
		{24, 0, "aae06992acbf52a3e8f4a96ec9300bd7"},
		{32, 0, "dc95c078a2408989ad48a21492842087"},
		{16, 0xff, "bcbf217cb280cf30b2517052193ab979"},
	} {
		got, err := aes.Encrypt(filled(x.size, x.with), [16]byte(filled(16, x.with)))
		if err != nil || hex.EncodeToString(got[:]) != x.want {
			t.Errorf("%d bytes %02x: %x, %v, not %s", x.size, x.with, got, err, x.want)
		}
	}
}

// P2.1, the published words of three keys: the key itself, the first word
// behind it, and the last.
func TestPublishedWords(t *testing.T) {
	for _, x := range []struct {
		key, first, last string
		size             int
	}{
		{"2b7e151628aed2a6abf7158809cf4f3c", "a0fafe17", "b6630ca6", 176},
		{"8e73b0f7da0e6452c810f32b809079e562f8ead2522c6b7b", "fe0c91f7", "01002202", 208},
		{"603deb1015ca71be2b73aef0857d77811f352c073b6108d72d9810a30914dff4", "9ba35411", "706c631e", 240},
	} {
		key := unhex(t, x.key)
		words, err := aes.Words(key)
		if err != nil || len(words) != x.size {
			t.Fatalf("a key of %d bytes: %d bytes of words, %v", len(key), len(words), err)
		}
		first, last := words[len(key):len(key)+4], words[len(words)-4:]
		if !bytes.Equal(words[:len(key)], key) || hex.EncodeToString(first) != x.first || hex.EncodeToString(last) != x.last {
			t.Errorf("a key of %d bytes: %x", len(key), words)
		}
	}
}

// P2.1, Words by the chapter's words.
func TestWordsOfSamples(t *testing.T) {
	for _, key := range samples() {
		got, err := aes.Words(key)
		if want := wordsByWords(key); err != nil || !bytes.Equal(got, want) {
			t.Errorf("the words of %x: %x, %v, not %x", key, got, err, want)
		}
	}
}

// P2.1, Encrypt (and what undoes it) held against the library's AES.
func TestEncryptAsPublished(t *testing.T) {
	for _, key := range samples() {
		c, err := published.NewCipher(key)
		if err != nil {
			t.Fatal(err)
		}
		for _, b := range blocks() {
			var want [16]byte
			c.Encrypt(want[:], b[:])
			if got, err := aes.Encrypt(key, b); err != nil || got != want {
				t.Fatalf("Encrypt(%x, %x) = %x, %v, not %x", key, b, got, err, want)
			}
			c.Decrypt(want[:], b[:])
			if got, err := aes.Decrypt(key, b); err != nil || got != want {
				t.Fatalf("Decrypt(%x, %x) = %x, %v, not %x", key, b, got, err, want)
			}
		}
	}
}

// wantSize fails if err isn't ErrSize alone, without a place.
func wantSize(t *testing.T, call string, size int, err error) {
	t.Helper()
	if !errors.Is(err, api.ErrSize) || api.At(err) != -1 {
		t.Errorf("%s of a key of %d bytes: %v at %d, not ErrSize", call, size, err, api.At(err))
	}
}

func tryOtherKey(t *testing.T, key []byte) {
	t.Helper()
	words, err := aes.Words(key)
	wantSize(t, "Words", len(key), err)
	if len(words) != 0 {
		t.Errorf("a key of %d bytes: words %x", len(key), words)
	}
	for _, with := range []byte{0, 0xff} {
		b := [16]byte(filled(16, with))
		got, err := aes.Encrypt(key, b)
		wantSize(t, "Encrypt", len(key), err)
		if got != [16]byte{} {
			t.Errorf("Encrypt with a key of %d bytes: %x beside its error", len(key), got)
		}
		got, err = aes.Decrypt(key, b)
		wantSize(t, "Decrypt", len(key), err)
		if got != [16]byte{} {
			t.Errorf("Decrypt with a key of %d bytes: %x beside its error", len(key), got)
		}
	}
}

// P2.1, ErrSize and zero values of keys of all other lengths.
func TestKeysOfOtherLengths(t *testing.T) {
	tryOtherKey(t, nil)
	for size := range 300 {
		if !slices.Contains(sizes, size) {
			tryOtherKey(t, filled(size, 0xff))
		}
	}
	tryOtherKey(t, make([]byte, 1<<16+16))
}

// P2.2, Decrypt undoes Encrypt, and Encrypt Decrypt.
func TestThereAndBack(t *testing.T) {
	for _, key := range samples() {
		for _, b := range blocks() {
			there, err := aes.Encrypt(key, b)
			if err != nil {
				t.Fatal(err)
			}
			if back, err := aes.Decrypt(key, there); err != nil || back != b {
				t.Fatalf("with %x, Decrypt of Encrypt of %x is %x, %v", key, b, back, err)
			}
			there, err = aes.Decrypt(key, b)
			if err != nil {
				t.Fatal(err)
			}
			if back, err := aes.Encrypt(key, there); err != nil || back != b {
				t.Fatalf("with %x, Encrypt of Decrypt of %x is %x, %v", key, b, back, err)
			}
		}
	}
}

// P2.3, a key stays, and so does the memory behind it in the same array.
func TestKeyStays(t *testing.T) {
	for size := range 40 {
		room := counted(512)
		key := room[:size]
		var b [16]byte
		aes.Words(key)
		aes.Encrypt(key, b)
		aes.Decrypt(key, b)
		if !bytes.Equal(room, counted(512)) || b != [16]byte{} {
			t.Errorf("a key of %d bytes was changed, or what is behind it: %x", size, room)
		}
	}
}

// P2.3, words are new memory: neither the key's nor that of another answer,
// and the key isn't kept.
func TestWordsAreNew(t *testing.T) {
	for _, size := range sizes {
		key := counted(size)
		want := wordsByWords(key)
		first, _ := aes.Words(key)
		second, _ := aes.Words(key)
		for i := range first {
			first[i] ^= 0xff
		}
		if !bytes.Equal(key, counted(size)) {
			t.Errorf("%d bytes: the words share the key's memory", size)
		}
		if !bytes.Equal(second, want) {
			t.Errorf("%d bytes: two answers share memory", size)
		}
		clear(key)
		if !bytes.Equal(second, want) {
			t.Errorf("%d bytes: the words share the key's memory", size)
		}
		if third, _ := aes.Words(counted(size)); !bytes.Equal(third, want) {
			t.Errorf("%d bytes: a later answer shares memory with an earlier one", size)
		}
	}
}
