package sha

import (
	"bytes"
	"crypto/hmac"
	"crypto/sha256"
	"encoding"
	"encoding/binary"
	"encoding/hex"
	"math/big"
	"strings"
	"testing"
)

// known are digests that were told elsewhere.
func known() map[string]string {
	return map[string]string{
		"":    "e3b0c44298fc1c149afbf4c8996fb92427ae41e4649b934ca495991b7852b855",
		"abc": "ba7816bf8f01cfea414140de5dae2223b00361a396177a9cb410ff61f20015ad",
		"The quick brown fox jumps over the lazy dog":              "d7a8fbb307d7809469ca9abcb0082e4f8d5651e46d3cdb762d02d0bf37c9e592",
		"abcdbcdecdefdefgefghfghighijhijkijkljklmklmnlmnomnopnopq": "248d6a61d20638b8e5c026930c3e6039a33ce45964ff2167f6ecedd419db06c1",
		strings.Repeat("a", 1000000):                               "cdc76e5c9914fb9281a1c7e284d73e67f1809a48a497200e046d39ccc7112cd0",
	}
}

// hexOf tells a digest as the lists of known ones do.
func hexOf(d [32]byte) string {
	return hex.EncodeToString(d[:])
}

// stirred is a row of bytes in which each byte stands at several places.
func stirred(size int) []byte {
	b := make([]byte, size)
	x := uint32(7)
	for i := range b {
		x = x*1664525 + 1013904223
		b[i] = byte(x >> 24)
	}
	return b
}

// libraryMac is a tag by the library.
func libraryMac(key, b []byte) [32]byte {
	m := hmac.New(sha256.New, key)
	m.Write(b)
	return [32]byte(m.Sum(nil))
}

// C1.

func TestSumKnown(t *testing.T) {
	for s, want := range known() {
		if got := hexOf(Sum([]byte(s))); got != want {
			t.Errorf("Sum(%.50q): %s, want %s", s, got, want)
		}
	}
}

func TestSumOfNothing(t *testing.T) {
	for _, b := range [][]byte{nil, {}} {
		if got := hexOf(Sum(b)); got != known()[""] {
			t.Errorf("Sum of no bytes: %s", got)
		}
	}
}

// TestSumOfEachSize: all lengths around several blocks' ends, 55, 56, 63, 64 and 65 among them.
func TestSumOfEachSize(t *testing.T) {
	b := stirred(5000)
	zeros := make([]byte, 700)
	ones := bytes.Repeat([]byte{0xFF}, 700)
	for size := range 700 {
		for _, row := range [][]byte{b[:size], zeros[:size], ones[:size]} {
			if got, want := Sum(row), sha256.Sum256(row); got != want {
				t.Fatalf("Sum of %d bytes: %x, want %x", size, got, want)
			}
		}
	}
	if got, want := Sum(b), sha256.Sum256(b); got != want {
		t.Errorf("Sum of %d bytes: %x, want %x", len(b), got, want)
	}
}

// TestSumOfEachByte: every byte at every place of a block.
func TestSumOfEachByte(t *testing.T) {
	b := stirred(blockSize)
	for at := range b {
		was := b[at]
		for c := range 256 {
			b[at] = byte(c)
			if got, want := Sum(b), sha256.Sum256(b); got != want {
				t.Fatalf("%02X at %d: %x, want %x", c, at, got, want)
			}
		}
		b[at] = was
	}
}

// primes are the first of them.
func primes(count int) (l []int64) {
	for n := int64(2); len(l) < count; n++ {
		if big.NewInt(n).ProbablyPrime(20) {
			l = append(l, n)
		}
	}
	return l
}

// rootBits are the 32 bits of the fraction of n's root of that degree: the greatest whole root of n times 2^(32*degree), of which the highest part falls away.
func rootBits(n int64, degree uint) word {
	scaled := new(big.Int).Lsh(big.NewInt(n), 32*degree)
	root := new(big.Int)
	for bit := 40; bit >= 0; bit-- {
		next := new(big.Int).SetBit(root, bit, 1)
		if new(big.Int).Exp(next, big.NewInt(int64(degree)), nil).Cmp(scaled) <= 0 {
			root = next
		}
	}
	return word(root.Uint64())
}

// TestRoots: the tables are what the chapter's words say of them.
func TestRoots(t *testing.T) {
	l := primes(rounds)
	for i, got := range squareRoots {
		if want := rootBits(l[i], 2); got != want {
			t.Errorf("square root of %d: %08X, want %08X", l[i], got, want)
		}
	}
	for i, got := range cubeRoots {
		if want := rootBits(l[i], 3); got != want {
			t.Errorf("cube root of %d: %08X, want %08X", l[i], got, want)
		}
	}
}

// C2.

func TestStateOfNothing(t *testing.T) {
	for _, s := range []State{Start(), Start().More(nil), Start().More([]byte{}).More(nil)} {
		if got := hexOf(s.Sum()); got != known()[""] {
			t.Errorf("a state of no bytes: %s", got)
		}
	}
}

func TestStateKnown(t *testing.T) {
	for text, want := range known() {
		third := len(text) / 3
		s := Start().More([]byte(text[:third])).More([]byte(text[third:]))
		if got := hexOf(s.Sum()); got != want {
			t.Errorf("%.50q in two: %s, want %s", text, got, want)
		}
	}
}

// TestTwoPieces: a cut anywhere, the ends too, changes nothing.
func TestTwoPieces(t *testing.T) {
	for _, size := range []int{0, 1, 55, 56, 63, 64, 65, 119, 120, 127, 128, 129, 300} {
		b := stirred(size)
		for cut := range size + 1 {
			if got, want := Start().More(b[:cut]).More(b[cut:]).Sum(), sha256.Sum256(b); got != want {
				t.Errorf("%d bytes, cut at %d: %x, want %x", size, cut, got, want)
			}
		}
	}
}

func TestThreePieces(t *testing.T) {
	b := stirred(150)
	want := sha256.Sum256(b)
	for second := range len(b) + 1 {
		for first := range second + 1 {
			s := Start().More(b[:first]).More(b[first:second]).More(b[second:])
			if got := s.Sum(); got != want {
				t.Errorf("cut at %d and %d: %x, want %x", first, second, got, want)
			}
		}
	}
}

// TestManyPieces: pieces of one size, from single bytes to more than two blocks.
func TestManyPieces(t *testing.T) {
	b := stirred(1000)
	for size := 1; size < 140; size++ {
		s := Start()
		for at := 0; at < len(b); at += size {
			s = s.More(b[at:min(at+size, len(b))])
		}
		if got, want := s.Sum(), sha256.Sum256(b); got != want {
			t.Errorf("pieces of %d: %x, want %x", size, got, want)
		}
	}
}

// TestEachBeginning: a state tells the digest of what came so far, and asking for it changes nothing.
func TestEachBeginning(t *testing.T) {
	b := stirred(400)
	s := Start()
	for at := range b {
		for range 2 {
			if got, want := s.Sum(), sha256.Sum256(b[:at]); got != want {
				t.Fatalf("up to %d: %x, want %x", at, got, want)
			}
		}
		s = s.More(b[at : at+1])
	}
}

// TestStateStays: More leaves the state that it is asked of as it was.
func TestStateStays(t *testing.T) {
	b := stirred(200)
	for size := range len(b) {
		s := Start().More(b[:size])
		was, want := s, sha256.Sum256(b[:size])
		for _, more := range []int{0, 1, 8, 63, 64, 65, 200} {
			s.More(b[:more])
			if s != was || s.Sum() != want {
				t.Fatalf("a state of %d bytes is another one after %d more", size, more)
			}
		}
	}
}

// TestTwoWaysOn: what goes on from one state has nothing to do with what else goes on from it.
func TestTwoWaysOn(t *testing.T) {
	b := stirred(200)
	for size := range 130 {
		s := Start().More(b[:size])
		left, right := s.More([]byte("left")), s.More([]byte("right, and farther"))
		left = left.More(b)
		right = right.More(b[:70])
		wantLeft := sha256.Sum256(append(append(bytes.Clone(b[:size]), "left"...), b...))
		wantRight := sha256.Sum256(append(append(bytes.Clone(b[:size]), "right, and farther"...), b[:70]...))
		if got := left.Sum(); got != wantLeft {
			t.Errorf("left of %d bytes: %x, want %x", size, got, wantLeft)
		}
		if got := right.Sum(); got != wantRight {
			t.Errorf("right of %d bytes: %x, want %x", size, got, wantRight)
		}
		if got, want := s.Sum(), sha256.Sum256(b[:size]); got != want {
			t.Errorf("the state of %d bytes itself: %x, want %x", size, got, want)
		}
	}
}

// TestSameStates: states of the same bytes are the same, in whichever pieces they came.
func TestSameStates(t *testing.T) {
	b := stirred(200)
	for size := range len(b) + 1 {
		want := Start().More(b[:size])
		for cut := range size + 1 {
			if Start().More(b[:cut]).More(b[cut:size]) != want {
				t.Fatalf("%d bytes, cut at %d: another state", size, cut)
			}
		}
	}
}

// TestStateKeepsNothing: who owns the bytes may write over them ahead of Sum.
func TestStateKeepsNothing(t *testing.T) {
	for size := range 200 {
		b := stirred(size)
		want := sha256.Sum256(b)
		s := Start().More(b)
		clear(b)
		if got := s.Sum(); got != want {
			t.Errorf("%d bytes, written over: %x, want %x", size, got, want)
		}
	}
}

// TestManyBits: each of the eight bytes that tell how many bits there were counts. So many bytes are not fed here: a state that has them is made, and held against the library's of the same.
func TestManyBits(t *testing.T) {
	for shift := uint(6); shift < 61; shift++ {
		size := uint64(1) << shift
		made := State{words: squareRoots, size: size}
		library := sha256.New()
		kept := append([]byte("sha\x03"), bytesOf(squareRoots)...)
		kept = append(kept, make([]byte, blockSize)...)
		kept = binary.BigEndian.AppendUint64(kept, size)
		if err := library.(encoding.BinaryUnmarshaler).UnmarshalBinary(kept); err != nil {
			t.Fatal(err)
		}
		if got, want := made.Sum(), [32]byte(library.Sum(nil)); got != want {
			t.Errorf("2^%d bytes: %x, want %x", shift, got, want)
		}
	}
}

// bytesOf are the words' bytes, the highest first.
func bytesOf(words eight) (b []byte) {
	for _, x := range words {
		b = binary.BigEndian.AppendUint32(b, uint32(x))
	}
	return b
}

// C3.

func TestMacKnown(t *testing.T) {
	for i, x := range []struct {
		key, b []byte
		want   string
	}{
		{nil, nil, "b613679a0814d9ec772f95d778c35fc5ff1697c493715653c6c712144292c5ad"},
		{[]byte("key"), []byte("The quick brown fox jumps over the lazy dog"), "f7bc83f430538424b13298e6aa6fb143ef4d59a14946175997479dbc2d1a3cd8"},
		{bytes.Repeat([]byte{0x0b}, 20), []byte("Hi There"), "b0344c61d8db38535ca8afceaf0bf12b881dc200c9833da726e9376c2e32cff7"},
		{bytes.Repeat([]byte{0xaa}, 131), []byte("Test Using Larger Than Block-Size Key - Hash Key First"), "60e431591ee0b67f0d8a26aacbf5b77f8e0bc6213728c5140546040f0ee37f54"},
	} {
		if got := hexOf(Mac(x.key, x.b)); got != x.want {
			t.Errorf("%d: %s, want %s", i, got, x.want)
		}
	}
}

// TestMacOfEachKey: keys of no byte up to more than three blocks, 63, 64 and 65 among them.
func TestMacOfEachKey(t *testing.T) {
	b := stirred(200)
	for size := range len(b) + 1 {
		for _, told := range []int{0, 1, 55, 56, 63, 64, 65, 200} {
			if got, want := Mac(b[:size], b[:told]), libraryMac(b[:size], b[:told]); got != want {
				t.Errorf("a key of %d bytes, %d bytes: %x, want %x", size, told, got, want)
			}
		}
	}
}

func TestMacOfEachSize(t *testing.T) {
	b := stirred(300)
	for _, key := range [][]byte{nil, {0}, {0x36}, {0x5C}, []byte("key"), b[:64], b[:65]} {
		for size := range len(b) + 1 {
			if got, want := Mac(key, b[:size]), libraryMac(key, b[:size]); got != want {
				t.Errorf("a key of %d bytes, %d bytes: %x, want %x", len(key), size, got, want)
			}
		}
	}
}

// TestKeysThatAreOne: a key is filled up with 0, and one that is too long stands for its Sum; a key of just 64 bytes does not.
func TestKeysThatAreOne(t *testing.T) {
	b := stirred(100)
	long := stirred(65)
	sum := Sum(long)
	if Mac(long, b) != Mac(sum[:], b) {
		t.Error("a key of 65 bytes is not its Sum")
	}
	full := stirred(64)
	sum = Sum(full)
	if Mac(full, b) == Mac(sum[:], b) {
		t.Error("a key of 64 bytes is its Sum")
	}
	short := []byte("key")
	if Mac(short, b) != Mac(append(bytes.Clone(short), make([]byte, 61)...), b) {
		t.Error("a key of 3 bytes is not filled up with 0")
	}
	if Mac(nil, b) != Mac(make([]byte, 64), b) || Mac(nil, b) == Mac(make([]byte, 65), b) {
		t.Error("the key of no bytes is not 64 of 0, or is 65 of them")
	}
}

// R1.

// TestReadOnly: what is handed in stays as it was, its spare room too.
func TestReadOnly(t *testing.T) {
	for _, size := range []int{0, 1, 3, 55, 56, 63, 64, 65, 130} {
		room, keyRoom := stirred(200), stirred(300)[100:]
		was, keyWas := bytes.Clone(room), bytes.Clone(keyRoom)
		b, key := room[:size], keyRoom[:size]
		for range 2 {
			if got, want := Sum(b), sha256.Sum256(b); got != want {
				t.Errorf("Sum of %d bytes: %x, want %x", size, got, want)
			}
			if got, want := Start().More(b).More(key).Sum(), sha256.Sum256(append(bytes.Clone(b), key...)); got != want {
				t.Errorf("More of %d bytes twice: %x, want %x", size, got, want)
			}
			if got, want := Mac(key, b), libraryMac(key, b); got != want {
				t.Errorf("Mac of %d bytes: %x, want %x", size, got, want)
			}
			if !bytes.Equal(room, was) || !bytes.Equal(keyRoom, keyWas) {
				t.Fatalf("%d bytes: what was handed in is not what it was", size)
			}
		}
	}
}

// TestSameRoom: a key and bytes that lie in the same room, one over the other.
func TestSameRoom(t *testing.T) {
	b := stirred(100)
	was := bytes.Clone(b)
	if got, want := Mac(b[:70], b[30:]), libraryMac(was[:70], was[30:]); got != want {
		t.Errorf("Mac: %x, want %x", got, want)
	}
	if !bytes.Equal(b, was) {
		t.Error("what was handed in is not what it was")
	}
}
