package hash_test

import (
	"testing"

	"treenail/hash"
)

// The examples of the chapter.
func TestExamples(t *testing.T) {
	sameBytes(t, hash.Sha(nil), fromHex(t, "e3b0c442 98fc1c14 9afbf4c8 996fb924 27ae41e4 649b934c a495991b 7852b855"), "Sha of no bytes")
	sameBytes(t, hash.Sha([]byte("abc")), fromHex(t, "ba7816bf 8f01cfea 414140de 5dae2223 b00361a3 96177a9c b410ff61 f20015ad"), "Sha(abc)")
	sameBytes(t, hash.Mac([]byte("Jefe"), []byte("what do ya want for nothing?")), fromHex(t, "5bdcc146 bf60754e 6a042426 089575c7 5a003f08 9d273983 9dec58b9 64ec3843"), "Mac(Jefe, ..)")
}
