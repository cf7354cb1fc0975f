package lower_test

import (
	"strings"
	"testing"

	"doppel/api"
)

// TestConditions has if with and without an else, in one another.
func TestConditions(t *testing.T) {
	for n, output := range []string{"d", "bc", "ac", "ad"} {
		source := "int f(int n){if(n&2)putc('a');else if(n)putc('b');if(n==1||n==2){putc('c');}else{putc('d');}if(n>9)putc('e');}int main(){f(" + number(n) + ");}"
		comes(t, source, "", result(api.Exit, 0, output))
	}
	gives(t, map[string]int{
		"int main(){if(1)return 2;return 3;}": 2, "int main(){if(0)return 2;return 3;}": 3, "int main(){if(0)return 2;else return 4;return 3;}": 4, "int main(){if(1);else return 4;return 3;}": 3, "int main(){if(1)if(0)return 1;else return 2;return 3;}": 2, "int main(){if(0)if(0)return 1;else return 2;return 3;}": 3,
		"int main(){int*p=0;if(p)return 1;if(!p)return 2;}": 2, "int main(){if(256)return 1;}": 1, "int main(){int a=5;if(a=0)return 1;return a+2;}": 2, "int main(){;{}{;}{{return 5;}}}": 5,
	})
}

// TestLoops has each loop, with each part of a for left out, left by break and goto, and gone on with by continue.
func TestLoops(t *testing.T) {
	gives(t, map[string]int{
		"int main(){int i=0;while(i<5)i++;return i;}": 5, "int main(){int i=7;while(i<5)i++;return i;}": 7, "int main(){int i=0;do i++;while(i<5);return i;}": 5, "int main(){int i=7;do i++;while(i<5);return i;}": 8,
		"int main(){int i;int s=0;for(i=1;i<5;i++)s=s*10+i;return s*10+i;}": 12345, "int main(){int i=1;int s=0;for(;i<5;i++)s=s*10+i;return s;}": 1234, "int main(){int i;int s=0;for(i=1;i<5;)s=s*10+i++;return s;}": 1234, "int main(){int i;int s=0;for(i=1;;i++){if(i==5)break;s=s*10+i;}return s;}": 1234, "int main(){int i=0;for(;;)if(i++==5)break;return i;}": 6, "int main(){int i=0;for(i=3;;)return i;}": 3, "int main(){int i=0;for(;;i++)if(i>3)return i;}": 4, "int main(){int i=5;for(;i;)i--;return i;}": 0, "int main(){for(;0;)return 1;for(1;0;1)return 2;return 3;}": 3,
		"int main(){int i;int s=0;for(i=0;i<5;i++){if(i==1)continue;if(i==4)break;s=s*10+i;}return s*10+i;}": 234, "int main(){int i=0;int s=0;while(i<5){i++;if(i==2)continue;if(i==4)break;s=s*10+i;}return s*10+i;}": 134, "int main(){int i=0;int s=0;do{i++;if(i==2)continue;if(i==4)break;s=s*10+i;}while(i<5);return s*10+i;}": 134, "int main(){int i=3;do continue;while(--i);return i;}": 0,
		"int main(){int i;int j;int s=0;for(i=0;i<3;i++){for(j=0;j<3;j++){if(j==1)continue;if(i==1)break;s=s*10+i+j;}s=s*10+9;}return s;}": 299249, "int main(){int i=0;int j;for(j=0;j<9;j++)while(1){i++;if(i%3)continue;break;}return i;}": 27,
		"int main(){int i;int j;for(i=0;i<9;i++)for(j=0;j<9;j++)if(i*j==42)goto out;out:return i*10+j;}": 67, "int f(int n){while(n){n--;if(n==3)return 7;}return 8;}int main(){return f(2)*10+f(9);}": 87, "int main(){int n=0;int a=1;while(a!=0){a*=2;n++;}return n;}": 32,
	})
	puts(t, map[string]string{
		"int main(){int i=0;for(putc('a');putc('b')&&i<2;putc('c'))i++;}": "abcbcb", "int main(){int i=0;for(putc('a');i<2;putc('c')){i++;continue;}}": "acc", "int main(){for(putc('a');putc('b');putc('c'))break;}": "ab", "int main(){int i=2;do putc('a');while(putc('b')&&--i);}": "abab", "int main(){int i=2;while(putc('b')&&i--)putc('a');}": "babab",
	})
	// Spent, with any fuel.
	for _, source := range []string{"int main(){for(;;);}", "int main(){while(1);}", "int main(){do;while(1);}", "int main(){do continue;while(1);}", "int main(){x:goto x;}", "int main(){for(;;)continue;}", "int main(){return main();}", "int main(){int i;for(i=1;i;)i|=2;}"} {
		comes(t, source, "", result(api.Spent, 0, ""))
	}
}

// TestSwitches has a switch whose cases fall through, with and without a default, in loops and in one another.
func TestSwitches(t *testing.T) {
	// A point goes out behind each switch, of 0 to 5.
	for body, output := range map[string]string{
		"": "......", "case 1:putc('a');": ".a.....", "case 1:putc('a');case 2:putc('b');": ".ab.b....", "case 1:putc('a');break;case 2:putc('b');": ".a.b....", "default:putc('d');": "d.d.d.d.d.d.", "case 1:putc('a');default:putc('d');case 3:putc('c');": "dc.adc.dc.c.dc.dc.", "default:putc('d');break;case 1:case 3:putc('c');": "d.c.d.c.d.d.", "case 3:case 2:case 1:putc('a');": ".a.a.a...", "case 0:putc('a');break;putc('b');default:break;case 4:putc('e');": "a....e..", "putc('x');case 1:putc('a');": ".a.....",
		"case 5:case -1:;default:;": "......", ";;;case 'A':case 0:putc('z');": "z......", "case 2:{case 3:putc('a');}putc('b');": "..ab.ab...", "while(0){case 1:putc('a');}putc('b');": ".ab.....", "if(0){case 1:putc('a');}else{case 2:putc('b');}": ".a.b....", "do{case 1:putc('a');continue;case 2:putc('b');}while(0);": ".a.b....", "case 1:for(;;){putc('a');break;}break;case 2:putc('b');": ".a.b....", "for(;n<2;n++){case 3:putc('a'+n);}": "...d...", "int a=n;case 1:putc('a'+a);": ".a.....", "case 1:switch(n+1){case 2:putc('a');break;default:putc('b');}case 4:putc('c');": ".ac...c..", "default:switch(n){case 2:putc('a');}": "..a....",
	} {
		source := "int f(int n){switch(n){" + body + "}putc('.');}int main(){int i;for(i=0;i<6;i++)f(i);}"
		comes(t, source, "", result(api.Exit, 0, output))
	}
	gives(t, map[string]int{
		"int main(){int s=0;int i;for(i=0;i<4;i++)switch(i){case 0:s+=1;case 1:s+=10;break;default:s+=100;}return s;}": 221, "int main(){switch(5){case 1:return 1;}return 2;}": 2, "int main(){int s=0;int i;for(i=0;i<4;i++){switch(i){case 1:continue;case 2:s+=5;}s++;}return s;}": 8, "int main(){int i=0;while(1){switch(i++){case 3:goto out;default:continue;}}out:return i;}": 4,
		"int main(){switch(-1){case 4294967295:return 1;}}": 1, "int main(){switch(4294967295){case -1:return 1;}}": 1, "int main(){switch('a'){case 97:return 1;default:return 2;}}": 1, "int main(){char c=511;switch(c){case 255:return 1;}}": 1, "int main(){int n=2;switch(n++){case 2:return n;}}": 3, "int main(){int n=2;switch(n=5){case 2:return 1;case 5:return n+1;}}": 6,
		"int f(){return 3;}int main(){switch(f()){case 3:switch(f()+1){case 3:return 1;case 4:break;}return 2;}return 3;}": 2, "int main(){int i=0;goto in;switch(9){case 1:i=5;in:i++;break;i=7;}return i;}": 1, "int main(){int i=0;goto in;switch(9){in:i++;case 1:i+=10;default:i+=100;}return i;}": 111, "int main(){switch(1){case 1:{int a;a=4;return a;}}}": 4, "int main(){int a=9;switch(1){int a=3;case 1:a++;return a;}}": 1,
	})
}

// TestManyCases has switches of many cases, for each of their words and for those beside them.
func TestManyCases(t *testing.T) {
	for _, count := range []int{1, 2, 7, 8, 9, 15, 16, 17, 18, 33, 64, 100, 300} {
		for _, step := range []int{1, 3, -1, 14_000_000, -14_000_000} {
			var cases strings.Builder
			for k := range count {
				cases.WriteString("case " + number(k*step-5) + ":return " + number(k) + ";")
			}
			source := "int f(int n){switch(n){" + cases.String() + "}return -1;}int main(){int i;for(i=-1;i<" + number(count+1) + ";i++)if(f(i*" + number(step) + "-5)!=(i<" + number(count) + "?i:-1))return 1000+i;"
			for _, beside := range []int{-1, 1} {
				if step != beside && step != -beside {
					source += "for(i=0;i<" + number(count) + ";i++)if(f(i*" + number(step) + "-5+" + number(beside) + ")!=-1)return 2000+i;"
				}
			}
			comes(t, source+"return f(-2147483647-1)+f(2147483647);}", "", exit(-2))
		}
	}
	gives(t, map[string]int{"int main(){switch(-2147483647-1){case 0:case 1:case 2:case 3:case 4:case 5:case 6:case 7:case 2147483647:return 1;case -2147483648:return 2;}}": 2, "int main(){switch(2147483647){case 0:case 1:case 2:case 3:case 4:case 5:case 6:case 7:case 2147483647:return 1;case 2147483648:return 2;}}": 1})
}

// TestGotos has gotos forward and backward, into and out of blocks, loops and switches, and labels at the end of a block.
func TestGotos(t *testing.T) {
	gives(t, map[string]int{
		"int main(){goto x;return 1;x:return 2;}": 2, "int main(){int i=0;x:i++;if(i<5)goto x;return i;}": 5, "int main(){int i=0;goto x;{i=5;x:i++;}return i;}": 1, "int main(){int i=0;{i=5;goto x;}i=7;x:return i;}": 5, "int main(){int i=0;goto in;while(i<3){i+=10;in:i+=1;}return i;}": 12, "int main(){int i=0;goto in;do{i+=10;in:i+=1;}while(i<3);return i;}": 12, "int main(){int i=0;goto in;for(i=50;i<13;i+=5){i+=100;in:i+=1;}return i;}": 112,
		"int main(){int i=0;goto in;if(i){i=5;in:i+=2;}else i=9;return i;}": 2, "int main(){int i=0;goto in;if(1){i=5;}else{i=9;in:i+=3;}return i;}": 3, "int main(){int i=0;while(1){while(1){i++;if(i==3)goto out;}}out:return i;}": 3, "int main(){goto end;end:;}": 0, "int main(){{goto end;end:;}return 4;}": 4, "int main(){int i=0;while(i<3){i++;goto end;i=9;end:;}return i;}": 3, "int f(int n){goto end;n=3;end:;}int main(){return f(1);}": 0, "int main(){a:b:c:return 3;}": 3, "int main(){goto b;a:b:c:return 3;}": 3, "int main(){int i=0;goto c;a:i+=100;b:i+=10;c:i+=1;if(i<5)goto b;if(i<50)goto a;return i;}": 123,
		"int main(){int n=3;int f=1;again:if(n){f*=n;n--;goto again;}return f;}": 6, "int main(){int i=0;goto in;while(i<100){int j=0;while(j<3){i++;in:j++;}i+=10;}return i;}": 103, "int main(){int x=4;goto x;x=5;x:return x;}": 4, "int f(){goto x;x:return 1;}int g(){goto x;x:return 2;}int main(){return f()*10+g();}": 12, "int main(){int i=0;goto in;switch(i){case 5:in:i=3;break;default:i=9;}return i;}": 3, "int main(){switch(1){case 1:goto out;}return 3;out:return 4;}": 4, "int main(){goto x;{int a=7;x:return a;}}": 0, "int main(){int i=0;x:{int a;a+=5;i+=a;if(i<20)goto x;}return i;}": 20,
	})
}

// TestLocals has variables that are set wherever they are declared, and blocks within one another.
func TestLocals(t *testing.T) {
	gives(t, map[string]int{
		"int main(){int a;return a;}": 0, "int main(){int a=3;{int a=4;a++;}return a;}": 3, "int main(){int a=3;{int a=a+1;return a;}}": 4, "int main(){int i;int s=0;for(i=0;i<3;i++){int a;a+=i;s+=a;}return s;}": 3, "int main(){int i;int s=0;for(i=0;i<3;i++){int a;&a;a+=i;s+=a;}return s;}": 3, "int a=5;int main(){a++;int a=a+1;return a;}": 7, "int f(int a){a=a+1;{int a=9;}return a;}int main(){int a=3;return f(a)*10+a;}": 43, "int f(int a,int b){&b;b+=a;return b;}int main(){return f(3,4);}": 7, "int main(){int a=1;int b=a+1;int c=b+1;return a*100+b*10+c;}": 123, "int f(int n){int a;if(n)a=n;return a;}int main(){f(5);return f(0);}": 0,
	})
}
