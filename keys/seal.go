package keys

import "pawl/api"

// Seal seals a text under a key and a head.
func Seal(key string, head string, text string) string {
	cover := veil(key, text)
	return cover + tag(key, head, cover)
}

// Unseal tells the text of what is sealed, and whether it was sealed under this key and head.
// Every cover is that of some text, so the tag alone decides.
func Unseal(key string, head string, sealed string) (string, bool) {
	size := len(sealed) - api.TagSize
	if size < 0 {
		return "", false
	}
	cover := sealed[:size]
	if sealed[size:] != tag(key, head, cover) {
		return "", false
	}
	return veil(key, cover), true
}

// veil makes a text's cover, and a cover's text: done twice it undoes itself.
func veil(key string, text string) string {
	veiled := []byte{}
	for block := 0; block*api.KeySize < len(text); block++ {
		mask := Mix(key, "s"+string([]byte{byte(block)}))
		rest := text[block*api.KeySize:]
		for i := 0; i < len(mask) && i < len(rest); i++ {
			veiled = append(veiled, rest[i]^mask[i])
		}
	}
	return string(veiled)
}

func tag(key string, head string, cover string) string {
	return Mix(key, "t"+head+cover)
}
