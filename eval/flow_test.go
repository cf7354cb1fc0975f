package eval_test

import (
	"strings"
	"testing"

	"doppel/api"
	"doppel/eval"
)

// puts holds what the statements of a main put out, which then reaches its end.
func puts(t *testing.T, statements map[string]string) {
	t.Helper()
	for source, output := range statements {
		comes(t, "int main(){"+source+"}", "", result(api.Exit, 0, output))
	}
}

// TestLoops has each loop, with break and continue in loops and switches within one another.
func TestLoops(t *testing.T) {
	puts(t, map[string]string{
		"int i=0;while(i<3){putc(97+i);i++;}":                                                                             "abc",
		"int i=3;while(i<3)putc(97);":                                                                                     "",
		"int i=3;do putc(97+i++);while(i<3);":                                                                             "d",
		"int i=0;do putc(97+i++);while(i<3);":                                                                             "abc",
		"int i;for(i=0;i<3;i++)putc(97+i);":                                                                               "abc",
		"int i;for(i=3;i<3;i++)putc(97+i);":                                                                               "",
		"for(putc(105);putc(99);putc(115)){putc(98);break;}":                                                              "icb",
		"int i=2;for(putc(105);putc(99)&&i;putc(115)){putc(98);i--;}":                                                     "icbscbsc",
		"int i=1;for(putc(105);putc(99)&&i;putc(115)){i--;continue;putc(98);}":                                            "icsc",
		"int i=0;for(;;){if(i==2)break;putc(97+i++);}putc(46);":                                                           "ab.",
		"int i=0;while(i<4){i++;if(i==2)continue;putc(96+i);}":                                                            "acd",
		"int i=0;do{i++;if(i==2)continue;putc(96+i);}while(i<4);":                                                         "acd",
		"int i=0;do{i++;if(i==4)continue;putc(96+i);}while(i<4);":                                                         "abc",
		"int i;for(i=0;i<4;i++){if(i==2)continue;putc(97+i);}":                                                            "abd",
		"int i=0;while(1){while(1){if(i++)break;putc(97);}putc(98);if(i>2)break;}":                                        "abb",
		"int i;int j;for(i=0;i<3;i++){for(j=0;j<3;j++){if(j==i)continue;if(j>i+1)break;putc(48+i*3+j);}}":                 "13567",
		"int i;for(i=0;i<5;i++){switch(i){case 1:continue;case 2:break;case 3:putc(51);default:putc(100);}putc(46);}":     "d..3d.d.",
		"int i;for(i=0;i<2;i++)switch(i){case 0:while(1){putc(97);break;}putc(98);break;case 1:for(;;){putc(99);break;}}": "abc",
		"int i;for(i=0;i<3;i++){switch(1){case 1:switch(i){case 1:continue;default:break;}putc(48+i);break;}putc(46);}":   "0.2.",
		"int i=0;while(i<3)do{i++;if(i==1)continue;putc(48+i);if(i==2)break;}while(0);":                                   "23",
		"while(1){do{break;}while(1);putc(97);{{break;}}}":                                                                "a",
		"int i=0;for(;i<3;i++){{if(i==1){continue;}}putc(48+i);}":                                                         "02",
	})
}

func TestIf(t *testing.T) {
	puts(t, map[string]string{
		"if(0)putc(97);else if(1)putc(98);else putc(99);":                       "b",
		"if(-1)putc(97);if(2147483648)putc(98);if(256)putc(99);if(0)putc(100);": "abc",
		"if(1)if(0)putc(97);else putc(98);":                                     "b",
		"{putc(97);;{}{putc(98);{putc(99);}}}putc(100);":                        "abcd",
		"if(putc(97)-97)putc(98);else{putc(99);putc(100);}":                     "acd",
	})
}

func TestReturns(t *testing.T) {
	gives(t, map[string]int{
		"int main(){}": 0, "int main(){return;}": 0, "int main(){5;}": 0, "int main(){return 5;return 6;}": 5, "int main(){return -1;}": -1, "int main(){return 2147483648;}": -1 << 31,
		"int f(){5;}int main(){return f();}": 0, "int f(){return;}int main(){f()+7;return f();}": 0, "int f(int n){if(n)return n;}int main(){return f(3)*10+f(0);}": 30, "void f(){}int main(){f();}": 0,
		"int main(){while(1)return 3;}": 3, "int main(){for(;;){int i;for(i=0;;i++)if(i==4)return i;}}": 4, "int main(){do{switch(1){case 1:{return 5;}}}while(1);}": 5,
		"int f(int n){for(;;){n--;if(n<5)return n;}return 9;}int main(){return f(9)*100+f(3);}":                                                                               402,
		"int f(){while(1){while(1){return 2;}}}int main(){int s=0;int i;for(i=0;i<5;i++){s+=f();if(i==3)break;}return s;}":                                                    8,
		"int f(int n){if(n<2)return n;return f(n-1)+f(n-2);}int main(){return f(15);}":                                                                                        610,
		"int odd(int n){if(n==0)return 0;return even(n-1);}int even(int n){if(n==0)return 1;return odd(n-1);}int main(){return even(10)*10+odd(7);}":                          11,
		"int f(int n){int m=n*10;if(n)f(n-1);return m+n;}int main(){return f(4);}":                                                                                            44,
		"int f(int a,int b,int c,int d,int e,int g){return a*100000+b*10000+c*1000+d*100+e*10+g;}int main(){return f(1,2,3,4,5,6)-f(0,f(0,0,0,0,0,1),0,f(0,0,0,0,0,2),0,0);}": 113256,
		"int main(){if(getc()<0)return main2();}int main2(){return 6;}":                                                                                                       6,
		"int n;int main(){n++;if(n<5)return main();return n;}":                                                                                                                5,
	})
	comes(t, "int f(){putc(97);return 1;putc(98);}int main(){f();f();return f();}", "", result(api.Exit, 1, "aaa"))
}

// TestGoto has gotos forwards and backwards, into blocks, loops and switches, and out of them.
func TestGoto(t *testing.T) {
	puts(t, map[string]string{
		"putc(97);goto x;putc(98);x:putc(99);putc(100);":            "acd",
		"int i=0;x:putc(97+i);i++;if(i<3)goto x;":                   "abc",
		"goto y;x:putc(98);goto z;y:putc(97);goto x;z:;":            "ab",
		"goto x;{putc(97);x:putc(98);putc(99);}putc(46);":           "bc.",
		"goto x;{{putc(97);{x:;}putc(98);}putc(99);}":               "bc",
		"{putc(97);{putc(98);goto x;}putc(99);}x:putc(46);":         "ab.",
		"goto x;if(0){putc(97);x:putc(98);}else putc(99);putc(46);": "b.",
		"goto x;if(1)putc(97);else{putc(98);x:putc(99);}putc(46);":  "c.",
		"goto x;y:z:x:putc(97);":                                    "a",
		"goto y;y:z:x:putc(97);":                                    "a",
		// Into loops: these go on as if they had been entered.
		"int i=1;goto x;while(putc(99)&&i<3){putc(97);x:putc(48+i);i++;}putc(46);":                      "1ca2c.",
		"int i=1;goto x;do{putc(97);x:putc(48+i);i++;}while(putc(99)&&i<3);putc(46);":                   "1ca2c.",
		"int i=1;goto x;for(putc(105);putc(99)&&i<3;putc(115)){putc(97);x:putc(48+i);i++;}putc(46);":    "1sca2sc.",
		"int i=1;goto x;for(putc(105);;putc(115)){if(i==3)break;putc(97);x:putc(48+i);i++;}putc(46);":   "1sa2s.",
		"goto x;while(1){putc(97);x:break;}putc(46);":                                                   ".",
		"int i=0;goto x;while(i<2){putc(97);x:i++;if(i<3)continue;putc(98);}putc(46);":                  "a.",
		"int i=0;goto x;for(;i<3;i++){putc(97);x:continue;}putc(46);":                                   "aa.",
		"goto x;do{putc(97);x:continue;}while(0);putc(46);":                                             ".",
		"int i=0;while(i<2){i++;goto x;while(i){putc(97);x:putc(48+i);break;}putc(46);}":                "1.2.",
		"int i=0;goto x;while(i<2){while(1){putc(97);x:i++;if(i==1)continue;break;}putc(46);}putc(33);": "a.!",
		// Out of loops and switches.
		"while(1){for(;;){do{putc(97);goto x;}while(1);}}putc(98);x:putc(99);":            "ac",
		"int i=0;x:while(i<9){i++;if(i%3==0){putc(48+i);goto x;}}putc(46);":               "369.",
		"switch(1){case 1:putc(97);goto x;case 2:putc(98);}x:putc(99);":                   "ac",
		"int i;for(i=0;i<3;i++){switch(i){case 1:goto x;default:putc(48+i);}x:putc(46);}": "0..2.",
		// Into switches: a break ends them.
		"goto x;switch(putc(97)){case 1:putc(98);x:putc(99);case 2:putc(100);break;putc(101);}putc(46);": "cd.",
		"goto x;switch(1){while(0){putc(97);x:putc(98);}putc(99);break;putc(100);}putc(46);":             "bc.",
		"int i=0;goto x;for(;i<3;i++){switch(i){x:putc(120);case 1:putc(49);continue;}putc(46);}":        "x1" + "1" + ".",
		"int i=0;switch(1){case 1:x:putc(97);i++;if(i<3)goto x;break;default:putc(98);}putc(46);":        "aaa.",
		// A goto to a loop's own label begins the loop.
		"int i=0;goto x;putc(97);x:for(putc(105);i<2;i++)putc(48+i);": "i01",
		"int i=3;x:if(i--)goto x;putc(48-i);":                         "1",
	})
}

// TestGotoOfItsOwnFunction holds that a goto leaves other calls alone, and that labels belong to functions.
func TestGotoOfItsOwnFunction(t *testing.T) {
	gives(t, map[string]int{
		"int f(int n){goto x;n=7;x:return n;}int main(){int s=1;goto x;s=100;x:s+=f(2)*10;return s;}":                21,
		"int f(int n){x:if(n>4)return n;n++;goto x;}int main(){return f(0)*10+f(9);}":                                59,
		"int f(int n){if(n==0)goto x;return f(n-1)*10+n;x:return 5;}int main(){return f(3);}":                        5123,
		"int f(int n){int i=0;x:if(i<n){f(n-1);i++;goto x;}return i;}int main(){return f(4);}":                       4,
		"int g;int f(int n){x:g++;if(n){n--;if(n==1)f(1);goto x;}}int main(){f(3);return g;}":                        6,
		"int f(int n){switch(n){x:return 1;case 2:goto x;}return 0;}int main(){x:return f(2)*10+f(1);}":              10,
		"int f(int n){int a[3];a[0]=n;goto x;a[0]=9;x:return a[0];}int main(){int b[2];b[0]=3;return f(4)*10+b[0];}": 43,
		"int f(){goto x;{int a=5;x:return a;}}int main(){return f();}":                                               0,
		"int f(int n){if(n)goto x;{int a=5;x:return a;}}int main(){return f(0)*100+f(1)*10+f(0);}":                   505,
		"int main(){int n=0;x:{int a=7;n++;y:a++;if(n<4)goto x;if(n<6){n++;goto y;}return a*10+n;}}":                 106,
	})
}

// TestLongLists holds that a goto finds its label among thousands of statements.
func TestLongLists(t *testing.T) {
	gives(t, map[string]int{
		"int main(){int i=0;" + strings.Repeat(";", 2500) + "x:i++;if(i<1000)goto x;" + strings.Repeat(";", 1300) + "return i;}":     1000,
		"int main(){int i=0;switch(1){" + strings.Repeat("i++;", 500) + "case 1:;" + strings.Repeat("i++;", 500) + "}return i;}":     500,
		"int main(){int i=0;goto x;" + strings.Repeat("{", 90) + "i=9;x:i++;" + strings.Repeat("i++;}", 90) + "return i;}":           91,
		"int main(){int i=0;goto x;" + strings.Repeat("while(i%7){", 45) + "i=9;x:i++;" + strings.Repeat("i=7;}", 45) + "return i;}": 7,
	})
}

// TestSwitch has switches with and without a default, whose cases are met anywhere in the block.
func TestSwitch(t *testing.T) {
	puts(t, map[string]string{
		"int i;for(i=0;i<5;i++){switch(i){case 1:putc(97);case 2:putc(98);break;case 3:putc(99);}putc(46);}":                    ".ab.b.c..",
		"int i;for(i=0;i<4;i++){switch(i){case 1:putc(97);default:putc(100);case 2:putc(98);}putc(46);}":                        "db.adb.b.db.",
		"int i;for(i=0;i<3;i++){switch(i){default:putc(100);break;case 1:putc(97);}}":                                           "dad",
		"switch(putc(97)){putc(98);}putc(99);":                                                                                  "ac",
		"switch(1){putc(97);case 1:putc(98);}":                                                                                  "b",
		"switch(1){}switch(1){;}switch(1){case 2:putc(97);}switch(1){default:putc(98);}":                                        "b",
		"int i=3;switch(1){while(i>0){putc(97);case 1:putc(48+i);i--;}}putc(46);":                                               "3a2a1.",
		"int i=0;switch(1){do{putc(97);case 1:putc(48+i);i++;}while(i<2);}putc(46);":                                            "0a1.",
		"int i=0;switch(2){for(putc(105);putc(99)&&i<2;putc(115)){case 1:putc(97);case 2:putc(48+i);i++;}}putc(46);":            "0sca1sc.",
		"switch(1){if(0){putc(97);case 1:putc(98);}else{putc(99);default:putc(100);}putc(101);}":                                "be",
		"switch(2){if(0){putc(97);case 1:putc(98);}else{putc(99);default:putc(100);}putc(101);}":                                "de",
		"switch(1){{{putc(97);case 1:{putc(98);}}putc(99);}putc(100);}":                                                         "bcd",
		"switch(1){case 1:switch(2){case 1:putc(97);break;case 3:putc(98);default:putc(99);}putc(100);break;case 2:putc(101);}": "cd",
		"switch(3){case 1:switch(2){case 3:putc(97);}default:putc(98);}":                                                        "b",
		"switch(3){switch(2){case 3:putc(97);default:putc(98);}case 3:putc(99);}":                                               "c",
		"switch(3){case 1:switch(2){default:putc(97);}}putc(46);":                                                               ".",
		"switch(5){x:case 5:y:putc(97);}":                                                                                       "a",
		"switch(5){case 4:default:case 6:putc(97);}":                                                                            "a",
		"switch(-1){case 1:putc(97);case -1:putc(98);break;default:putc(99);}":                                                  "b",
		"switch(4294967295){case 1:putc(97);case -1:putc(98);break;default:putc(99);}":                                          "b",
		"switch(-1){case 4294967295:putc(98);break;default:putc(99);}switch(0){case -0:putc(97);}":                              "ba",
		"switch(2147483648){case -2147483648:putc(98);break;default:putc(99);}":                                                 "b",
		"char c=255;switch(c){case -1:putc(97);break;case 255:putc(98);}":                                                       "b",
		"int i=7;switch(i){case 7:i=8;case 8:i=9;}putc(48+i);":                                                                  "9",
	})
	gives(t, map[string]int{
		"int f(int n){switch(n){case 0:return 5;case 1:return 6;}return 7;}int main(){return f(0)*100+f(1)*10+f(2);}": 567,
		"int f(int n){switch(n){case 1:return f(0)+1;default:return 3;}}int main(){return f(1);}":                     4,
		"int f(){switch(1){case 2:return 5;}}int main(){return f();}":                                                 0,
	})
}

// TestManyCases holds that the case with the word is met, among many.
func TestManyCases(t *testing.T) {
	var cases strings.Builder
	for n := range 256 {
		cases.WriteString("case " + number(n-100) + ":return " + number(n*3) + ";")
	}
	p := read(t, "int main(){switch(getc()-100){"+cases.String()+"}}")
	for n := range 256 {
		want(t, number(n), eval.Run(p, []byte{byte(n)}, plenty), exit(n*3))
	}
	want(t, "none", eval.Run(p, nil, plenty), exit(0))
}
