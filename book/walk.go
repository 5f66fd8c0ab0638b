package book

import "voyage/frame"

// besidePayload is how many bytes a frame has beside its payload: chapter 11.
const besidePayload = 12

// walk hands over the payloads of the whole frames that a file begins with, each with the place where its frame ends, till one isn't taken.
func walk(file []byte, take func(payload []byte, end int) bool) {
	payloads, _ := frame.Scan(file)
	end := 0
	for _, payload := range payloads {
		end += len(payload) + besidePayload
		if !take(payload, end) {
			return
		}
	}
}
